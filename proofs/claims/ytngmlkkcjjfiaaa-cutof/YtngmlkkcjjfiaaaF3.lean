/- Own: parts of layer 14 (no statement is proved here). -/
import Derived.Test.YtngmlkkcjjfiaaaF0
import Derived.Test.YtngmlkkcjjfiaaaN0
import Derived.KernelRfl
namespace Go.Proofs.Ytngmlkkcjjfiaaa.Ab
open Go.Proofs
set_option linter.unusedSimpArgs false
set_option linter.unusedVariables false
set_option maxRecDepth 4000
theorem fn21 : Try.prog.funcs[21]? = some Try.f21 := by kernel_rfl
/-- A part's cells. -/
def p1 (p : Nat × Nat × Nat) : List Value := [.int .i64 (p.1 : Int), .complex .f64 (fb p.2.1) (fb p.2.2)]
def pc : List (Nat × Nat × Nat) → List Value
  | [] => []
  | p :: l => p1 p ++ pc l
theorem pc_app (l m : List (Nat × Nat × Nat)) : pc (l ++ m) = pc l ++ pc m := by
  induction l with
  | nil => rfl
  | cons p l ih => show p1 p ++ pc (l ++ m) = (p1 p ++ pc l) ++ pc m; rw [ih, List.append_assoc]
theorem pc_len (l : List (Nat × Nat × Nat)) : (pc l).length = 2 * l.length := by
  induction l with
  | nil => rfl
  | cons p l ih => show (p1 p ++ pc l).length = _; rw [List.length_append, ih, List.length_cons]; show 2 + _ = _; omega
theorem pc_get (l : List (Nat × Nat × Nat)) (i : Nat) (p : Nat × Nat × Nat) (h : l[i]? = some p) : (pc l)[2 * i]? = some (.int .i64 (p.1 : Int)) ∧ (pc l)[2 * i + 1]? = some (.complex .f64 (fb p.2.1) (fb p.2.2)) := by
  induction l generalizing i with
  | nil => simp at h
  | cons q l ih =>
    cases i with
    | zero => simp at h; subst h; exact ⟨rfl, rfl⟩
    | succ i =>
      simp at h
      have := ih i h
      show (p1 q ++ pc l)[2 * (i + 1)]? = _ ∧ (p1 q ++ pc l)[2 * (i + 1) + 1]? = _
      rw [List.getElem?_append_right (by show 2 ≤ _; omega), List.getElem?_append_right (by show 2 ≤ _; omega)]
      show (pc l)[2 * (i + 1) - 2]? = _ ∧ (pc l)[2 * (i + 1) + 1 - 2]? = _
      rw [show 2 * (i + 1) - 2 = 2 * i by omega, show 2 * (i + 1) + 1 - 2 = 2 * i + 1 by omega]
      exact this
theorem laidnil_ok (kind size : Nat) (hs : size < 2 ^ 40) : CallOK Try.prog (fun _ => none) 21 [.ex (.slice none 0 0), .ex (.int .i64 (kind : Int)), .ex (.int .i64 (size : Int))] [] { val := .o 0 0 1, upd := [(0, .rowX 2 (pc [(kind, 0, size)]))], nks := [0] } := by
  have e0 := getD_add 0 0 (by omega)
  have e1 := fok_add 0 0 (by omega)
  rw [fb_lit0] at e0 e1
  refine CallOK.from0 hmix Try.f21 0 fn21 (by kernel_rfl) (by kernel_rfl) (fun w ρ h1 h2 => ?_)
  refine AG.rk 11 [6] [68] 69 (todo' := [.code (sub (codeOf Try.f21) [1, 1, 1, 1])]) (st' := ⟨mkT 31 [(6, .o 68 0 1)], [(68, .rowX 2 [Value.int .i64 (↑kind : Int), Value.complex FloatKind.f64 0 (fb size)])], 69⟩) (by kernel_rfl) (by kernel_rfl) ?_
  refine AG.ren 68 0 (st' := ⟨mkT 31 [(6, .o 0 0 1)], [(0, .rowX 2 [Value.int .i64 (↑kind : Int), Value.complex FloatKind.f64 0 (fb size)])], 69⟩) (by kernel_rfl) (by kernel_rfl) ?_
  refine AG.fin ([.o 0 0 1]) Go.Proofs.Try.f21 fn21 (.inr ⟨_, rfl⟩) (obs := []) (by kernel_rfl) trivial (by kernel_rfl) ⟨(by kernel_rfl), trivial⟩ (by kernel_rfl)
theorem laid_ok (L : List (Nat × Nat × Nat)) (hL : L.length < 10000) (k a s : Nat) (hl : L[L.length - 1]? = some (k, a, s)) (ha : a + s < 2 ^ 40) (h0 : 0 < L.length) (kind size : Nat) (hs : size < 2 ^ 40) : CallOK Try.prog (fun _ => none) 21 [.o 0 0 L.length, .ex (.int .i64 (kind : Int)), .ex (.int .i64 (size : Int))] [(0, .rowX 2 (pc L))] { val := .o 1 0 (L.length + 1), upd := [(1, .rowX 2 (pc (L ++ [(kind, a + s, size)])))], nks := [1], wks := [0], kill := [0] } := by
  have g0 : decide ((L.length : Int) > 0) = true := by simp; omega
  have e1 : IntKind.i64.wrap ((L.length : Int) - 1) = ((L.length - 1 : Nat) : Int) := by rw [wrap64_id _ (by omega) (by omega)]; omega
  have hg := (pc_get L _ _ hl).2
  have hlen := pc_len L
  have e2 : (pc L).getD (0 + ((L.length - 1 : Nat) : Int).toNat * 2 + 1) undef = .complex .f64 (fb a) (fb s) := by
    rw [Int.toNat_natCast, List.getD_eq_getElem?_getD, show 0 + (L.length - 1) * 2 + 1 = 2 * (L.length - 1) + 1 by omega, hg]; rfl
  have e3 := getD_add a s (by omega)
  have e4 := fok_add a s (by omega)
  have eP : pc (L ++ [(kind, a + s, size)]) = pc L ++ [.int .i64 (kind : Int), .complex .f64 (fb (a + s)) (fb size)] := by rw [pc_app]; rfl
  rw [eP]
  generalize hw : fb (a + s) = z at *
  generalize hx : fb a = x at *
  generalize hy : fb s = y at *
  generalize pc L = C at *
  generalize hq : L.length = q at *
  refine CallOK.from0 hmix Try.f21 1 fn21 (by kernel_rfl) (by kernel_rfl) (fun w ρ h1 h2 => ?_)
  refine AG.rk 6 [0, 1, 2, 7] [0] 1 (todo' := [.code (sub (codeOf Try.f21) [1, 1, 0, 0]), .code (sub (codeOf Try.f21) [1, 1, 0, 1]), .code (sub (codeOf Try.f21) [1, 1, 1])]) (st' := ⟨mkT 31 [(0, .o 0 0 q), (1, .ex (.int .i64 (↑kind : Int))), (2, .ex (.int .i64 (↑size : Int))), (7, .ex (.complex FloatKind.f64 0 0))], [(0, .rowX 2 C)], 1⟩) (by kernel_rfl) (by kernel_rfl) ?_
  refine AG.gk [] [(2, { val := .ex (.bool true) })] [0, 1, 2, 7, 10] [0] 1 (st' := ⟨mkT 31 [(0, .o 0 0 q), (1, .ex (.int .i64 (↑kind : Int))), (2, .ex (.int .i64 (↑size : Int))), (7, .ex (.complex FloatKind.f64 0 0)), (10, .ex (.bool true))], [(0, .rowX 2 C)], 1⟩) (obs := [Ob.eq (.ex (.bool (decide ((↑q : Int) > 0)))) (.ex (.bool true))]) (by kernel_rfl) (by kernel_rfl) ⟨(by simp only [Ob.holds, g0]), trivial⟩ ?_
  refine AG.rk 1 [0, 1, 2] [0] 1 (todo' := [.code (sub (codeOf Try.f21) [1, 1, 0, 1, 0]), .code (sub (codeOf Try.f21) [1, 1, 1])]) (st' := ⟨mkT 31 [(0, .o 0 0 q), (1, .ex (.int .i64 (↑kind : Int))), (2, .ex (.int .i64 (↑size : Int)))], [(0, .rowX 2 C)], 1⟩) (by kernel_rfl) (by kernel_rfl) ?_
  refine AG.gk [4] [(3, { val := .ex (.int .i64 (↑(q - 1) : Int)) }), (6, { val := .ex (.complex FloatKind.f64 x y) })] [0, 1, 2, 7] [0] 1 (st' := ⟨mkT 31 [(0, .o 0 0 q), (1, .ex (.int .i64 (↑kind : Int))), (2, .ex (.int .i64 (↑size : Int))), (7, .ex (.complex FloatKind.f64 x y))], [(0, .rowX 2 C)], 1⟩) (obs := [Ob.eq (.ex (.int .i64 (IntKind.wrap .i64 ((↑q : Int) - 1)))) (.ex (.int .i64 (↑(q - 1) : Int))), Ob.ix (↑(q - 1) : Int) q, Ob.eq (.ex (List.getD C (0 + Int.toNat (↑(q - 1) : Int) * 2 + 1) undef)) (.ex (.complex FloatKind.f64 x y)), Ob.le (0 + Int.toNat (↑(q - 1) : Int) * 2 + 1 + 1) (List.length C)]) (by kernel_rfl) (by kernel_rfl) ⟨(by simp only [Ob.holds, e1]), (by (simp only [Ob.holds]; omega)), (by simp only [Ob.holds, e2]), (by (simp only [Ob.holds]; omega)), trivial⟩ ?_
  refine AG.rk 1 [0, 1, 2, 7] [0] 1 (todo' := [.code (sub (codeOf Try.f21) [1, 1, 1, 0]), .code (sub (codeOf Try.f21) [1, 1, 1, 1])]) (st' := ⟨mkT 31 [(0, .o 0 0 q), (1, .ex (.int .i64 (↑kind : Int))), (2, .ex (.int .i64 (↑size : Int))), (7, .ex (.complex FloatKind.f64 x y))], [(0, .rowX 2 C)], 1⟩) (by kernel_rfl) (by kernel_rfl) ?_
  refine AG.gk [12] [(6, { val := .ex (.float FloatKind.f64 z) })] [6] [49] 50 (st' := ⟨mkT 31 [(6, .o 49 0 (q + 1))], [(49, .rowX 2 (C ++ List.take 2 (List.drop 0 [Value.int .i64 (↑kind : Int), Value.complex FloatKind.f64 z (fb size)])))], 50⟩) (obs := [Ob.eq (.ex (.float FloatKind.f64 (Option.getD (floatBits BinOp.add FloatKind.f64 x y) 0))) (.ex (.float FloatKind.f64 z)), Ob.le 1 (fok (floatBits BinOp.add FloatKind.f64 x y)), Ob.le ((q + 1) * 24) 140737488355328, Ob.le (q + 1) 140737488355328, Ob.one [Value.int .i64 (↑kind : Int), Value.complex FloatKind.f64 z (fb size)], Ob.le (q * 2) (List.length C), Ob.le (List.length C) (q * 2), Ob.le 2 2]) (by kernel_rfl) (by kernel_rfl) ⟨(by simp only [Ob.holds, e3]), (by (simp only [Ob.holds]; omega)), (by (simp only [Ob.holds]; omega)), (by (simp only [Ob.holds]; omega)), (by rfl), (by (simp only [Ob.holds]; omega)), (by (simp only [Ob.holds]; omega)), (Ob.holds_of_dec (by kernel_rfl)), trivial⟩ ?_
  refine AG.ren 49 1 (st' := ⟨mkT 31 [(6, .o 1 0 (q + 1))], [(1, .rowX 2 (C ++ List.take 2 (List.drop 0 [Value.int .i64 (↑kind : Int), Value.complex FloatKind.f64 z (fb size)])))], 50⟩) (by kernel_rfl) (by kernel_rfl) ?_
  refine AG.fin ([.o 1 0 (q + 1)]) Go.Proofs.Try.f21 fn21 (.inr ⟨_, rfl⟩) (obs := []) (by kernel_rfl) trivial (by kernel_rfl) ⟨(by kernel_rfl), trivial⟩ (by kernel_rfl)
end Go.Proofs.Ytngmlkkcjjfiaaa.Ab
