/- Own: parts of layer 14 (no statement is proved here). -/
import Derived.Test.YtngmlkkcjjfiaaaF3
import Derived.KernelRfl
namespace Go.Proofs.Ytngmlkkcjjfiaaa.Ab
open Go.Proofs
set_option linter.unusedSimpArgs false
set_option linter.unusedVariables false
set_option maxRecDepth 4000
theorem fn22 : Try.prog.funcs[22]? = some Try.f22 := by kernel_rfl
theorem fn20 : Try.prog.funcs[20]? = some Try.f20 := by kernel_rfl
theorem fn11 : Try.prog.funcs[11]? = some Try.f11 := by kernel_rfl
def lastEnd (L : List (Nat × Nat × Nat)) : Nat := match L.getLast? with
  | some p => p.2.1 + p.2.2
  | none => 0
theorem laid0_ok (kind size : Nat) (hs : size < 2 ^ 40) : CallOK Try.prog (fun _ => none) 21 [.o 0 0 0, .ex (.int .i64 (kind : Int)), .ex (.int .i64 (size : Int))] [(0, .rowX 2 [])] { val := .o 1 0 1, upd := [(1, .rowX 2 (pc [(kind, 0, size)]))], nks := [1], wks := [0], kill := [0] } := by
  have e0 := getD_add 0 0 (by omega)
  have e1 := fok_add 0 0 (by omega)
  rw [fb_lit0] at e0 e1
  refine CallOK.from0 hmix Try.f21 1 fn21 (by kernel_rfl) (by kernel_rfl) (fun w ρ h1 h2 => ?_)
  refine AG.rk 11 [6] [69] 70 (todo' := [.code (sub (codeOf Try.f21) [1, 1, 1, 1])]) (st' := ⟨mkT 31 [(6, .o 69 0 1)], [(69, .rowX 2 [Value.int .i64 (↑kind : Int), Value.complex FloatKind.f64 0 (fb size)])], 70⟩) (by kernel_rfl) (by kernel_rfl) ?_
  refine AG.ren 69 1 (st' := ⟨mkT 31 [(6, .o 1 0 1)], [(1, .rowX 2 [Value.int .i64 (↑kind : Int), Value.complex FloatKind.f64 0 (fb size)])], 70⟩) (by kernel_rfl) (by kernel_rfl) ?_
  refine AG.fin ([.o 1 0 1]) Go.Proofs.Try.f21 fn21 (.inr ⟨_, rfl⟩) (obs := []) (by kernel_rfl) trivial (by kernel_rfl) ⟨(by kernel_rfl), trivial⟩ (by kernel_rfl)
theorem laidE_ok (L : List (Nat × Nat × Nat)) (hL : L.length < 10000) (e : Nat) (he : lastEnd L = e) (h : e < 2 ^ 40) (kind size : Nat) (hs : size < 2 ^ 40) : CallOK Try.prog (fun _ => none) 21 [.o 0 0 L.length, .ex (.int .i64 (kind : Int)), .ex (.int .i64 (size : Int))] [(0, .rowX 2 (pc L))] { val := .o 1 0 (L.length + 1), upd := [(1, .rowX 2 (pc (L ++ [(kind, e, size)])))], nks := [1], wks := [0], kill := [0] } := by
  unfold lastEnd at he
  by_cases h0 : L = []
  · subst h0
    simp at he
    subst he
    exact laid0_ok kind size hs
  · rw [List.getLast?_eq_getElem?] at he
    have hp : 0 < L.length := List.length_pos_iff.2 h0
    cases hg : L[L.length - 1]? with
    | none => rw [List.getElem?_eq_none_iff] at hg; omega
    | some p =>
      rw [hg] at he
      subst he
      exact laid_ok L hL p.1 p.2.1 p.2.2 hg h hp kind size hs
theorem lastEnd_app (L : List (Nat × Nat × Nat)) (k a s : Nat) : lastEnd (L ++ [(k, a, s)]) = a + s := by
  unfold lastEnd; rw [List.getLast?_append]; rfl
/-- The first pairs. -/
def pairL : Nat → List (Nat × Nat × Nat)
  | 0 => []
  | m + 1 => pairL m ++ [(4, 32 * m, 16)] ++ [(5, 32 * m + 16, 16)]
theorem pairL_len : ∀ m, (pairL m).length = 2 * m
  | 0 => rfl
  | m + 1 => by show (pairL m ++ [_] ++ [_]).length = _; rw [List.length_append, List.length_append, pairL_len m]; simp; omega
theorem pairL_end : ∀ m, lastEnd (pairL m) = 32 * m
  | 0 => rfl
  | m + 1 => by show lastEnd (pairL m ++ [_] ++ [(5, 32 * m + 16, 16)]) = _; rw [lastEnd_app]; omega
/-- Behind the pairs. -/
def restL (L : List (Nat × Nat × Nat)) (n P d : Nat) : List (Nat × Nat × Nat) :=
  (if d = 0 then L else if d < 16 then L ++ [(6, 32 * P, d)] else L ++ [(6, 32 * P, 16)] ++ [(7, 32 * P + 16, d - 16)]) ++ [(8, n - 32, 16)] ++ [(9, n - 16, 16)]
def aezL (n : Nat) : List (Nat × Nat × Nat) := restL (pairL ((n - 32) / 32)) n ((n - 32) / 32) ((n - 32) % 32)
theorem pairs_ok (n : Nat) (h : 32 ≤ n) (h' : n ≤ 65536) : CallOK Try.prog (fun _ => none) 22 [.ex (.int .i64 (n : Int))] [] { val := .o 0 0 (aezL n).length, upd := [(0, .rowX 2 (pc (aezL n)))], nks := [0] } := by
  have e1 : IntKind.i64.wrap ((n : Int) - 32) = ((n - 32 : Nat) : Int) := by rw [wrap64_id _ (by omega) (by omega)]; omega
  refine CallOK.from0 hmix Try.f22 0 fn22 (by kernel_rfl) (by kernel_rfl) (fun w ρ h1 h2 => ?_)
  obtain ⟨P, hP⟩ : ∃ P, P = (n - 32) / 32 := ⟨_, rfl⟩
  obtain ⟨d, hd⟩ : ∃ d, d = (n - 32) % 32 := ⟨_, rfl⟩
  have hn : n = 32 + 32 * P + d := by omega
  have hd32 : d < 32 := by omega
  refine AG.rk 6 [0, 3] [] 0 (todo' := [.code (sub (codeOf Try.f22) [1, 0, 1, 0]), .code (sub (codeOf Try.f22) [1, 0, 1, 1]), .inScope (sub (codeOf Try.f22) [1, 0])]) (st' := ⟨mkT 29 [(0, .ex (.int .i64 (↑n : Int))), (3, .ex (.slice none 0 0))], [], 0⟩) (by kernel_rfl) (by kernel_rfl) ?_
  refine AG.gk [] [(1, { val := .ex (.int .i64 (↑(n - 32) : Int)) })] [3, 4] [] 0 (st' := ⟨mkT 29 [(3, .ex (.slice none 0 0)), (4, .ex (.int .i64 (↑(n - 32) : Int)))], [], 0⟩) (obs := [Ob.eq (.ex (.int .i64 (IntKind.wrap .i64 ((↑n : Int) - 32)))) (.ex (.int .i64 (↑(n - 32) : Int)))]) (by kernel_rfl) (by kernel_rfl) ⟨(by simp only [Ob.holds, e1]), trivial⟩ ?_
  refine AG.rk 2 [3, 4] [] 0 (todo' := [.code (sub (codeOf Try.f22) [1, 0, 1, 1, 1]), .inScope (sub (codeOf Try.f22) [1, 0])]) (st' := ⟨mkT 29 [(3, .ex (.slice none 0 0)), (4, .ex (.int .i64 (↑(n - 32) : Int)))], [], 0⟩) (by kernel_rfl) (by kernel_rfl) ?_
  refine AG.nilrowX 3 2 rfl rfl ?_
  refine AG.indE (α := {x : Nat // x ≤ P}) (fun x => P - x.1)
    (fun x => ⟨mkT 29 [(3, .o 0 0 (2 * x.1)), (4, .ex (.int .i64 ((n - 32 - 32 * x.1 : Nat) : Int)))], [(0, .rowX 2 (pc (pairL x.1)))], 1⟩) ⟨0, by omega⟩ (by kernel_rfl) ?_
  rintro ⟨m, hm⟩ ih
  simp only at hm ih ⊢
  refine AG.rk 3 [3, 4, 8] [0] 1 (todo' := [.code (sub (codeOf Try.f22) [1, 0, 1, 1, 1, 0, 1]), .code (sub (codeOf Try.f22) [1, 0, 1, 1, 1, 1]), .inScope (sub (codeOf Try.f22) [1, 0])]) (st' := ⟨mkT 29 [(3, .o 0 0 (2 * m)), (4, .ex (.int .i64 (↑(n - 32 - 32 * m) : Int))), (8, .ex (.bool (decide ((↑(n - 32 - 32 * m) : Int) ≥ 32))))], [(0, .rowX 2 (pc (pairL m)))], 1⟩) (by kernel_rfl) (by kernel_rfl) ?_
  refine AG.cond (b := decide ((↑(n - 32 - 32 * m) : Int) ≥ 32)) (by kernel_rfl) (fun hc => ?_) (fun hc => ?_)
  · have hlt : m < P := by simp at hc; omega
    clear hc
    have c1 := laidE_ok (pairL m) (by rw [pairL_len]; omega) (32 * m) (pairL_end m) (by omega) 4 16 (by omega)
    have c2 := laidE_ok (pairL m ++ [(4, 32 * m, 16)]) (by rw [List.length_append, pairL_len]; simp; omega) (32 * m + 16) (lastEnd_app _ _ _ _) (by omega) 5 16 (by omega)
    rw [List.length_append, pairL_len, show 2 * m + [(4, 32 * m, 16)].length = 2 * m + 1 from rfl] at c2
    rw [pairL_len] at c1
    have ih1 := ih ⟨m + 1, by omega⟩ (by simp only; omega)
    simp only [show pairL (m + 1) = pairL m ++ [(4, 32 * m, 16)] ++ [(5, 32 * m + 16, 16)] from rfl] at ih1
    generalize pc (pairL m ++ [(4, 32 * m, 16)] ++ [(5, 32 * m + 16, 16)]) = C2 at *
    generalize pc (pairL m ++ [(4, 32 * m, 16)]) = C1 at *
    generalize pc (pairL m) = C0 at *
    have v5 : IntKind.i64.wrap (((n - 32 - 32 * m : Nat) : Int) - 32) = ((n - 32 - 32 * (m + 1) : Nat) : Int) := by rw [wrap64_id _ (by omega) (by omega)]; omega
    refine AG.rk 1 [3, 4] [0] 1 (todo' := [.code (sub (codeOf Try.f22) [1, 0, 1, 1, 1, 0, 1, 0, 0]), .code (sub (codeOf Try.f22) [1, 0, 1, 1, 1, 0, 1, 0, 1]), .code (sub (codeOf Try.f22) [1, 0, 1, 1, 1, 1]), .inScope (sub (codeOf Try.f22) [1, 0])]) (st' := ⟨mkT 29 [(3, .o 0 0 (2 * m)), (4, .ex (.int .i64 (↑(n - 32 - 32 * m) : Int)))], [(0, .rowX 2 C0)], 1⟩) (by kernel_rfl) (by kernel_rfl) ?_
    refine AG.gk [] [(1, useR [(0, 0, 0)] 5 ({ val := .o 1 0 (2 * m + 1), upd := [(1, .rowX 2 C1)], nks := [1], wks := [0], kill := [0] })), (2, useR [(0, 5, 0)] 9 ({ val := .o 1 0 (2 * m + 1 + 1), upd := [(1, .rowX 2 C2)], nks := [1], wks := [0], kill := [0] }))] [3, 4] [9] 10 (st' := ⟨mkT 29 [(3, .o 9 0 (2 * m + 1 + 1)), (4, .ex (.int .i64 (↑(n - 32 - 32 * m) : Int)))], [(9, .rowX 2 C2)], 10⟩) (obs := [Ob.call (fun g => List.lookup g []) 21 [.o 0 0 (2 * m), .ex (.int .i64 4), .ex (.int .i64 16)] [(0, .rowX 2 C0)] (useR [(0, 0, 0)] 5 { val := .o 1 0 (2 * m + 1), upd := [(1, .rowX 2 C1)], nks := [1], wks := [0], kill := [0] }), Ob.call (fun g => List.lookup g []) 21 [.o 5 0 (2 * m + 1), .ex (.int .i64 5), .ex (.int .i64 16)] [(5, .rowX 2 C1)] (useR [(0, 5, 0)] 9 { val := .o 1 0 (2 * m + 1 + 1), upd := [(1, .rowX 2 C2)], nks := [1], wks := [0], kill := [0] })]) (by kernel_rfl) (by kernel_rfl) ⟨(CallOK.at0 [(0, 0, 0)] 5 (c1 ) (.cons (.o rfl rfl) (.cons (.ex _) (.cons (.ex _) .nil))) (.cons rfl rfl ⟨rfl, rfl⟩ .nil) (by kernel_rfl)), (CallOK.at0 [(0, 5, 0)] 9 (c2 ) (.cons (.o rfl rfl) (.cons (.ex _) (.cons (.ex _) .nil))) (.cons rfl rfl ⟨rfl, rfl⟩ .nil) (by kernel_rfl)), trivial⟩ ?_
    refine AG.rk 5 [3, 4] [9] 10 (todo' := [.code (sub (codeOf Try.f22) [1, 0, 1, 1, 1]), .inScope (sub (codeOf Try.f22) [1, 0])]) (st' := ⟨mkT 29 [(3, .o 9 0 (2 * m + 1 + 1)), (4, .ex (.int .i64 (IntKind.wrap .i64 ((↑(n - 32 - 32 * m) : Int) - 32))))], [(9, .rowX 2 C2)], 10⟩) (by kernel_rfl) (by kernel_rfl) ?_
    rewrite [v5]
    refine AG.ren 9 0 rfl (by kernel_rfl) ?_
    refine AG.keep [3, 4] [0] 1 rfl (by kernel_rfl) ?_
    exact AG.conv (by kernel_rfl) ih1
  · obtain hmP : m = P := by simp at hc; omega
    subst hmP
    clear hc ih
    by_cases h0 : d = 0
    · have g1 : decide (((n - 32 - 32 * m : Nat) : Int) > 0) = false := by simp; omega
      have g2 : decide (((n - 32 - 32 * m : Nat) : Int) ≥ 16) = false := by simp; omega
      obtain ⟨L, hL⟩ : ∃ L, L = pairL m := ⟨_, rfl⟩
      have hfin : aezL n = L ++ [(8, n - 32, 16)] ++ [(9, n - 16, 16)] := by
        unfold aezL restL
        rw [← hP, ← hd, hL]
        rw [if_pos h0]
      obtain ⟨q, hq⟩ : ∃ q, q = L.length := ⟨_, rfl⟩
      have hq' : q = 2 * m := by rw [hq, hL]; simp [pairL_len]
      have c5 := laidE_ok L (by omega) (n - 32) (by rw [hL]; rw [pairL_end]; omega) (by omega) 8 16 (by omega)
      have c6 := laidE_ok (L ++ [(8, n - 32, 16)]) (by rw [List.length_append, ← hq]; simp; omega) (n - 16) (by rw [lastEnd_app]; omega) (by omega) 9 16 (by omega)
      rw [List.length_append, ← hq, show q + [(8, n - 32, 16)].length = q + 1 from rfl] at c6
      rw [← hq] at c5
      rw [hfin, List.length_append, List.length_append, ← hq, show q + [(8, n - 32, 16)].length + [(9, n - 16, 16)].length = q + 1 + 1 from rfl]
      rw [← hL]
      generalize pc (L ++ [(8, n - 32, 16)] ++ [(9, n - 16, 16)]) = C4 at *
      generalize pc (L ++ [(8, n - 32, 16)]) = C3 at *
      generalize pc L = C2 at *

      subst hq'
      refine AG.rk 3 [3, 4] [0] 1 (todo' := [.code (sub (codeOf Try.f22) [1, 0, 1, 1, 1, 1, 0, 0]), .code (sub (codeOf Try.f22) [1, 0, 1, 1, 1, 1, 0, 1]), .code (sub (codeOf Try.f22) [1, 0, 1, 1, 1, 1, 1]), .inScope (sub (codeOf Try.f22) [1, 0])]) (st' := ⟨mkT 29 [(3, .o 0 0 (2 * m)), (4, .ex (.int .i64 (↑(n - 32 - 32 * m) : Int)))], [(0, .rowX 2 C2)], 1⟩) (by kernel_rfl) (by kernel_rfl) ?_
      refine AG.gk [] [(1, { val := .ex (.bool false) })] [3, 4, 15] [0] 1 (st' := ⟨mkT 29 [(3, .o 0 0 (2 * m)), (4, .ex (.int .i64 (↑(n - 32 - 32 * m) : Int))), (15, .ex (.bool false))], [(0, .rowX 2 C2)], 1⟩) (obs := [Ob.eq (.ex (.bool (decide ((↑(n - 32 - 32 * m) : Int) > 0)))) (.ex (.bool false))]) (by kernel_rfl) (by kernel_rfl) ⟨(by simp only [Ob.holds, g1]), trivial⟩ ?_
      refine AG.rk 4 [3, 4] [0] 1 (todo' := [.code (sub (codeOf Try.f22) [1, 0, 1, 1, 1, 1, 1, 0, 0]), .code (sub (codeOf Try.f22) [1, 0, 1, 1, 1, 1, 1, 0, 1]), .code (sub (codeOf Try.f22) [1, 0, 1, 1, 1, 1, 1, 1]), .inScope (sub (codeOf Try.f22) [1, 0])]) (st' := ⟨mkT 29 [(3, .o 0 0 (2 * m)), (4, .ex (.int .i64 (↑(n - 32 - 32 * m) : Int)))], [(0, .rowX 2 C2)], 1⟩) (by kernel_rfl) (by kernel_rfl) ?_
      refine AG.gk [] [(1, { val := .ex (.bool false) })] [3, 4, 21] [0] 1 (st' := ⟨mkT 29 [(3, .o 0 0 (2 * m)), (4, .ex (.int .i64 (↑(n - 32 - 32 * m) : Int))), (21, .ex (.bool false))], [(0, .rowX 2 C2)], 1⟩) (obs := [Ob.eq (.ex (.bool (decide ((↑(n - 32 - 32 * m) : Int) ≥ 16)))) (.ex (.bool false))]) (by kernel_rfl) (by kernel_rfl) ⟨(by simp only [Ob.holds, g2]), trivial⟩ ?_
      refine AG.rk 3 [3] [0] 1 (todo' := [.code (sub (codeOf Try.f22) [1, 0, 1, 1, 1, 1, 1, 1, 0]), .code (sub (codeOf Try.f22) [1, 0, 1, 1, 1, 1, 1, 1, 1]), .inScope (sub (codeOf Try.f22) [1, 0])]) (st' := ⟨mkT 29 [(3, .o 0 0 (2 * m))], [(0, .rowX 2 C2)], 1⟩) (by kernel_rfl) (by kernel_rfl) ?_
      refine AG.gk [] [(1, useR [(0, 0, 0)] 5 ({ val := .o 1 0 (2 * m + 1), upd := [(1, .rowX 2 C3)], nks := [1], wks := [0], kill := [0] })), (2, useR [(0, 5, 0)] 9 ({ val := .o 1 0 (2 * m + 1 + 1), upd := [(1, .rowX 2 C4)], nks := [1], wks := [0], kill := [0] }))] [2] [9] 10 (st' := ⟨mkT 29 [(2, .o 9 0 (2 * m + 1 + 1))], [(9, .rowX 2 C4)], 10⟩) (obs := [Ob.call (fun g => List.lookup g []) 21 [.o 0 0 (2 * m), .ex (.int .i64 8), .ex (.int .i64 16)] [(0, .rowX 2 C2)] (useR [(0, 0, 0)] 5 { val := .o 1 0 (2 * m + 1), upd := [(1, .rowX 2 C3)], nks := [1], wks := [0], kill := [0] }), Ob.call (fun g => List.lookup g []) 21 [.o 5 0 (2 * m + 1), .ex (.int .i64 9), .ex (.int .i64 16)] [(5, .rowX 2 C3)] (useR [(0, 5, 0)] 9 { val := .o 1 0 (2 * m + 1 + 1), upd := [(1, .rowX 2 C4)], nks := [1], wks := [0], kill := [0] })]) (by kernel_rfl) (by kernel_rfl) ⟨(CallOK.at0 [(0, 0, 0)] 5 (c5 ) (.cons (.o rfl rfl) (.cons (.ex _) (.cons (.ex _) .nil))) (.cons rfl rfl ⟨rfl, rfl⟩ .nil) (by kernel_rfl)), (CallOK.at0 [(0, 5, 0)] 9 (c6 ) (.cons (.o rfl rfl) (.cons (.ex _) (.cons (.ex _) .nil))) (.cons rfl rfl ⟨rfl, rfl⟩ .nil) (by kernel_rfl)), trivial⟩ ?_
      refine AG.ren 9 0 (st' := ⟨mkT 29 [(2, .o 0 0 (2 * m + 1 + 1))], [(0, .rowX 2 C4)], 10⟩) (by kernel_rfl) (by kernel_rfl) ?_
      refine AG.fin ([.o 0 0 (2 * m + 1 + 1)]) Go.Proofs.Try.f22 fn22 (.inr ⟨_, rfl⟩) (obs := []) (by kernel_rfl) trivial (by kernel_rfl) ⟨(by kernel_rfl), trivial⟩ (by kernel_rfl)
    by_cases h16 : d < 16
    · have g1 : decide (((n - 32 - 32 * m : Nat) : Int) > 0) = true := by simp; omega
      have g2 : decide (((n - 32 - 32 * m : Nat) : Int) ≥ 16) = false := by simp; omega
      have g3 : (if 16 < ((n - 32 - 32 * m : Nat) : Int) then (16 : Int) else ((n - 32 - 32 * m : Nat) : Int)) = (d : Int) := by rw [if_neg (by omega)]; omega
      obtain ⟨L, hL⟩ : ∃ L, L = pairL m ++ [(6, 32 * m, d)] := ⟨_, rfl⟩
      have hfin : aezL n = L ++ [(8, n - 32, 16)] ++ [(9, n - 16, 16)] := by
        unfold aezL restL
        rw [← hP, ← hd, hL]
        rw [if_neg h0, if_pos h16]
      obtain ⟨q, hq⟩ : ∃ q, q = L.length := ⟨_, rfl⟩
      have hq' : q = 2 * m + 1 := by rw [hq, hL]; simp [pairL_len]
      have c5 := laidE_ok L (by omega) (n - 32) (by rw [hL]; rw [lastEnd_app]; omega) (by omega) 8 16 (by omega)
      have c6 := laidE_ok (L ++ [(8, n - 32, 16)]) (by rw [List.length_append, ← hq]; simp; omega) (n - 16) (by rw [lastEnd_app]; omega) (by omega) 9 16 (by omega)
      rw [List.length_append, ← hq, show q + [(8, n - 32, 16)].length = q + 1 from rfl] at c6
      rw [← hq] at c5
      rw [hfin, List.length_append, List.length_append, ← hq, show q + [(8, n - 32, 16)].length + [(9, n - 16, 16)].length = q + 1 + 1 from rfl]
      have c3 := laidE_ok (pairL m) (by rw [pairL_len]; omega) (32 * m) (pairL_end m) (by omega) 6 d (by omega)
      rw [← hL, pairL_len] at c3
      generalize pc (L ++ [(8, n - 32, 16)] ++ [(9, n - 16, 16)]) = C4 at *
      generalize pc (L ++ [(8, n - 32, 16)]) = C3 at *
      generalize pc L = C2 at *
      generalize pc (pairL m) = C0 at *
      subst hq'
      refine AG.rk 3 [3, 4] [0] 1 (todo' := [.code (sub (codeOf Try.f22) [1, 0, 1, 1, 1, 1, 0, 0]), .code (sub (codeOf Try.f22) [1, 0, 1, 1, 1, 1, 0, 1]), .code (sub (codeOf Try.f22) [1, 0, 1, 1, 1, 1, 1]), .inScope (sub (codeOf Try.f22) [1, 0])]) (st' := ⟨mkT 29 [(3, .o 0 0 (2 * m)), (4, .ex (.int .i64 (↑(n - 32 - 32 * m) : Int)))], [(0, .rowX 2 C0)], 1⟩) (by kernel_rfl) (by kernel_rfl) ?_
      refine AG.gk [] [(1, { val := .ex (.bool true) })] [3, 4, 15] [0] 1 (st' := ⟨mkT 29 [(3, .o 0 0 (2 * m)), (4, .ex (.int .i64 (↑(n - 32 - 32 * m) : Int))), (15, .ex (.bool true))], [(0, .rowX 2 C0)], 1⟩) (obs := [Ob.eq (.ex (.bool (decide ((↑(n - 32 - 32 * m) : Int) > 0)))) (.ex (.bool true))]) (by kernel_rfl) (by kernel_rfl) ⟨(by simp only [Ob.holds, g1]), trivial⟩ ?_
      refine AG.rk 1 [3, 4] [0] 1 (todo' := [.code (sub (codeOf Try.f22) [1, 0, 1, 1, 1, 1, 0, 1, 0]), .code (sub (codeOf Try.f22) [1, 0, 1, 1, 1, 1, 1]), .inScope (sub (codeOf Try.f22) [1, 0])]) (st' := ⟨mkT 29 [(3, .o 0 0 (2 * m)), (4, .ex (.int .i64 (↑(n - 32 - 32 * m) : Int)))], [(0, .rowX 2 C0)], 1⟩) (by kernel_rfl) (by kernel_rfl) ?_
      refine AG.gk [] [(2, { val := .ex (.int .i64 (↑d : Int)) }), (3, useR [(0, 0, 0)] 13 ({ val := .o 1 0 (2 * m + 1), upd := [(1, .rowX 2 C2)], nks := [1], wks := [0], kill := [0] }))] [3, 4] [13] 14 (st' := ⟨mkT 29 [(3, .o 13 0 (2 * m + 1)), (4, .ex (.int .i64 (↑(n - 32 - 32 * m) : Int)))], [(13, .rowX 2 C2)], 14⟩) (obs := [Ob.eq (.ex (.int .i64 (if 16 < (↑(n - 32 - 32 * m) : Int) then 16 else (↑(n - 32 - 32 * m) : Int)))) (.ex (.int .i64 (↑d : Int))), Ob.call (fun g => List.lookup g []) 21 [.o 0 0 (2 * m), .ex (.int .i64 6), .ex (.int .i64 (↑d : Int))] [(0, .rowX 2 C0)] (useR [(0, 0, 0)] 13 { val := .o 1 0 (2 * m + 1), upd := [(1, .rowX 2 C2)], nks := [1], wks := [0], kill := [0] })]) (by kernel_rfl) (by kernel_rfl) ⟨(by simp only [Ob.holds, g3]), (CallOK.at0 [(0, 0, 0)] 13 (c3 ) (.cons (.o rfl rfl) (.cons (.ex _) (.cons (.ex _) .nil))) (.cons rfl rfl ⟨rfl, rfl⟩ .nil) (by kernel_rfl)), trivial⟩ ?_
      refine AG.rk 2 [3, 4] [13] 14 (todo' := [.code (sub (codeOf Try.f22) [1, 0, 1, 1, 1, 1, 1, 0, 0]), .code (sub (codeOf Try.f22) [1, 0, 1, 1, 1, 1, 1, 0, 1]), .code (sub (codeOf Try.f22) [1, 0, 1, 1, 1, 1, 1, 1]), .inScope (sub (codeOf Try.f22) [1, 0])]) (st' := ⟨mkT 29 [(3, .o 13 0 (2 * m + 1)), (4, .ex (.int .i64 (↑(n - 32 - 32 * m) : Int)))], [(13, .rowX 2 C2)], 14⟩) (by kernel_rfl) (by kernel_rfl) ?_
      refine AG.gk [] [(1, { val := .ex (.bool false) })] [3, 4, 21] [13] 14 (st' := ⟨mkT 29 [(3, .o 13 0 (2 * m + 1)), (4, .ex (.int .i64 (↑(n - 32 - 32 * m) : Int))), (21, .ex (.bool false))], [(13, .rowX 2 C2)], 14⟩) (obs := [Ob.eq (.ex (.bool (decide ((↑(n - 32 - 32 * m) : Int) ≥ 16)))) (.ex (.bool false))]) (by kernel_rfl) (by kernel_rfl) ⟨(by simp only [Ob.holds, g2]), trivial⟩ ?_
      refine AG.rk 3 [3] [13] 14 (todo' := [.code (sub (codeOf Try.f22) [1, 0, 1, 1, 1, 1, 1, 1, 0]), .code (sub (codeOf Try.f22) [1, 0, 1, 1, 1, 1, 1, 1, 1]), .inScope (sub (codeOf Try.f22) [1, 0])]) (st' := ⟨mkT 29 [(3, .o 13 0 (2 * m + 1))], [(13, .rowX 2 C2)], 14⟩) (by kernel_rfl) (by kernel_rfl) ?_
      refine AG.gk [] [(1, useR [(0, 13, 0)] 18 ({ val := .o 1 0 (2 * m + 1 + 1), upd := [(1, .rowX 2 C3)], nks := [1], wks := [0], kill := [0] })), (2, useR [(0, 18, 0)] 22 ({ val := .o 1 0 (2 * m + 1 + 1 + 1), upd := [(1, .rowX 2 C4)], nks := [1], wks := [0], kill := [0] }))] [2] [22] 23 (st' := ⟨mkT 29 [(2, .o 22 0 (2 * m + 1 + 1 + 1))], [(22, .rowX 2 C4)], 23⟩) (obs := [Ob.call (fun g => List.lookup g []) 21 [.o 13 0 (2 * m + 1), .ex (.int .i64 8), .ex (.int .i64 16)] [(13, .rowX 2 C2)] (useR [(0, 13, 0)] 18 { val := .o 1 0 (2 * m + 1 + 1), upd := [(1, .rowX 2 C3)], nks := [1], wks := [0], kill := [0] }), Ob.call (fun g => List.lookup g []) 21 [.o 18 0 (2 * m + 1 + 1), .ex (.int .i64 9), .ex (.int .i64 16)] [(18, .rowX 2 C3)] (useR [(0, 18, 0)] 22 { val := .o 1 0 (2 * m + 1 + 1 + 1), upd := [(1, .rowX 2 C4)], nks := [1], wks := [0], kill := [0] })]) (by kernel_rfl) (by kernel_rfl) ⟨(CallOK.at0 [(0, 13, 0)] 18 (c5 ) (.cons (.o rfl rfl) (.cons (.ex _) (.cons (.ex _) .nil))) (.cons rfl rfl ⟨rfl, rfl⟩ .nil) (by kernel_rfl)), (CallOK.at0 [(0, 18, 0)] 22 (c6 ) (.cons (.o rfl rfl) (.cons (.ex _) (.cons (.ex _) .nil))) (.cons rfl rfl ⟨rfl, rfl⟩ .nil) (by kernel_rfl)), trivial⟩ ?_
      refine AG.ren 22 0 (st' := ⟨mkT 29 [(2, .o 0 0 (2 * m + 1 + 1 + 1))], [(0, .rowX 2 C4)], 23⟩) (by kernel_rfl) (by kernel_rfl) ?_
      refine AG.fin ([.o 0 0 (2 * m + 1 + 1 + 1)]) Go.Proofs.Try.f22 fn22 (.inr ⟨_, rfl⟩) (obs := []) (by kernel_rfl) trivial (by kernel_rfl) ⟨(by kernel_rfl), trivial⟩ (by kernel_rfl)
    · have g1 : decide (((n - 32 - 32 * m : Nat) : Int) > 0) = true := by simp; omega
      have g2 : decide (((n - 32 - 32 * m : Nat) : Int) ≥ 16) = true := by simp; omega
      have g3 : (if 16 < ((n - 32 - 32 * m : Nat) : Int) then (16 : Int) else ((n - 32 - 32 * m : Nat) : Int)) = 16 := by split <;> omega
      have g4 : IntKind.i64.wrap (((n - 32 - 32 * m : Nat) : Int) - 16) = ((d - 16 : Nat) : Int) := by rw [wrap64_id _ (by omega) (by omega)]; omega
      obtain ⟨L, hL⟩ : ∃ L, L = pairL m ++ [(6, 32 * m, 16)] ++ [(7, 32 * m + 16, d - 16)] := ⟨_, rfl⟩
      have hfin : aezL n = L ++ [(8, n - 32, 16)] ++ [(9, n - 16, 16)] := by
        unfold aezL restL
        rw [← hP, ← hd, hL]
        rw [if_neg h0, if_neg h16]
      obtain ⟨q, hq⟩ : ∃ q, q = L.length := ⟨_, rfl⟩
      have hq' : q = 2 * m + 1 + 1 := by rw [hq, hL]; simp [pairL_len]
      have c5 := laidE_ok L (by omega) (n - 32) (by rw [hL]; rw [lastEnd_app]; omega) (by omega) 8 16 (by omega)
      have c6 := laidE_ok (L ++ [(8, n - 32, 16)]) (by rw [List.length_append, ← hq]; simp; omega) (n - 16) (by rw [lastEnd_app]; omega) (by omega) 9 16 (by omega)
      rw [List.length_append, ← hq, show q + [(8, n - 32, 16)].length = q + 1 from rfl] at c6
      rw [← hq] at c5
      rw [hfin, List.length_append, List.length_append, ← hq, show q + [(8, n - 32, 16)].length + [(9, n - 16, 16)].length = q + 1 + 1 from rfl]
      have c3 := laidE_ok (pairL m) (by rw [pairL_len]; omega) (32 * m) (pairL_end m) (by omega) 6 16 (by omega)
      have c4 := laidE_ok (pairL m ++ [(6, 32 * m, 16)]) (by rw [List.length_append, pairL_len]; simp; omega) (32 * m + 16) (lastEnd_app _ _ _ _) (by omega) 7 (d - 16) (by omega)
      rw [← hL, List.length_append, pairL_len, show 2 * m + [(6, 32 * m, 16)].length = 2 * m + 1 from rfl] at c4
      rw [pairL_len] at c3
      generalize pc (L ++ [(8, n - 32, 16)] ++ [(9, n - 16, 16)]) = C4 at *
      generalize pc (L ++ [(8, n - 32, 16)]) = C3 at *
      generalize pc L = C2 at *
      generalize pc (pairL m ++ [(6, 32 * m, 16)]) = C1 at *
      generalize pc (pairL m) = C0 at *
      subst hq'
      refine AG.rk 3 [3, 4] [0] 1 (todo' := [.code (sub (codeOf Try.f22) [1, 0, 1, 1, 1, 1, 0, 0]), .code (sub (codeOf Try.f22) [1, 0, 1, 1, 1, 1, 0, 1]), .code (sub (codeOf Try.f22) [1, 0, 1, 1, 1, 1, 1]), .inScope (sub (codeOf Try.f22) [1, 0])]) (st' := ⟨mkT 29 [(3, .o 0 0 (2 * m)), (4, .ex (.int .i64 (↑(n - 32 - 32 * m) : Int)))], [(0, .rowX 2 C0)], 1⟩) (by kernel_rfl) (by kernel_rfl) ?_
      refine AG.gk [] [(1, { val := .ex (.bool true) })] [3, 4, 15] [0] 1 (st' := ⟨mkT 29 [(3, .o 0 0 (2 * m)), (4, .ex (.int .i64 (↑(n - 32 - 32 * m) : Int))), (15, .ex (.bool true))], [(0, .rowX 2 C0)], 1⟩) (obs := [Ob.eq (.ex (.bool (decide ((↑(n - 32 - 32 * m) : Int) > 0)))) (.ex (.bool true))]) (by kernel_rfl) (by kernel_rfl) ⟨(by simp only [Ob.holds, g1]), trivial⟩ ?_
      refine AG.rk 1 [3, 4] [0] 1 (todo' := [.code (sub (codeOf Try.f22) [1, 0, 1, 1, 1, 1, 0, 1, 0]), .code (sub (codeOf Try.f22) [1, 0, 1, 1, 1, 1, 1]), .inScope (sub (codeOf Try.f22) [1, 0])]) (st' := ⟨mkT 29 [(3, .o 0 0 (2 * m)), (4, .ex (.int .i64 (↑(n - 32 - 32 * m) : Int)))], [(0, .rowX 2 C0)], 1⟩) (by kernel_rfl) (by kernel_rfl) ?_
      refine AG.gk [] [(2, { val := .ex (.int .i64 16) }), (3, useR [(0, 0, 0)] 13 ({ val := .o 1 0 (2 * m + 1), upd := [(1, .rowX 2 C1)], nks := [1], wks := [0], kill := [0] }))] [3, 4] [13] 14 (st' := ⟨mkT 29 [(3, .o 13 0 (2 * m + 1)), (4, .ex (.int .i64 (↑(n - 32 - 32 * m) : Int)))], [(13, .rowX 2 C1)], 14⟩) (obs := [Ob.eq (.ex (.int .i64 (if 16 < (↑(n - 32 - 32 * m) : Int) then 16 else (↑(n - 32 - 32 * m) : Int)))) (.ex (.int .i64 16)), Ob.call (fun g => List.lookup g []) 21 [.o 0 0 (2 * m), .ex (.int .i64 6), .ex (.int .i64 16)] [(0, .rowX 2 C0)] (useR [(0, 0, 0)] 13 { val := .o 1 0 (2 * m + 1), upd := [(1, .rowX 2 C1)], nks := [1], wks := [0], kill := [0] })]) (by kernel_rfl) (by kernel_rfl) ⟨(by simp only [Ob.holds, g3]), (CallOK.at0 [(0, 0, 0)] 13 (c3 ) (.cons (.o rfl rfl) (.cons (.ex _) (.cons (.ex _) .nil))) (.cons rfl rfl ⟨rfl, rfl⟩ .nil) (by kernel_rfl)), trivial⟩ ?_
      refine AG.rk 2 [3, 4] [13] 14 (todo' := [.code (sub (codeOf Try.f22) [1, 0, 1, 1, 1, 1, 1, 0, 0]), .code (sub (codeOf Try.f22) [1, 0, 1, 1, 1, 1, 1, 0, 1]), .code (sub (codeOf Try.f22) [1, 0, 1, 1, 1, 1, 1, 1]), .inScope (sub (codeOf Try.f22) [1, 0])]) (st' := ⟨mkT 29 [(3, .o 13 0 (2 * m + 1)), (4, .ex (.int .i64 (↑(n - 32 - 32 * m) : Int)))], [(13, .rowX 2 C1)], 14⟩) (by kernel_rfl) (by kernel_rfl) ?_
      refine AG.gk [] [(1, { val := .ex (.bool true) })] [3, 4, 21] [13] 14 (st' := ⟨mkT 29 [(3, .o 13 0 (2 * m + 1)), (4, .ex (.int .i64 (↑(n - 32 - 32 * m) : Int))), (21, .ex (.bool true))], [(13, .rowX 2 C1)], 14⟩) (obs := [Ob.eq (.ex (.bool (decide ((↑(n - 32 - 32 * m) : Int) ≥ 16)))) (.ex (.bool true))]) (by kernel_rfl) (by kernel_rfl) ⟨(by simp only [Ob.holds, g2]), trivial⟩ ?_
      refine AG.rk 1 [3, 4] [13] 14 (todo' := [.code (sub (codeOf Try.f22) [1, 0, 1, 1, 1, 1, 1, 0, 1, 0]), .code (sub (codeOf Try.f22) [1, 0, 1, 1, 1, 1, 1, 1]), .inScope (sub (codeOf Try.f22) [1, 0])]) (st' := ⟨mkT 29 [(3, .o 13 0 (2 * m + 1)), (4, .ex (.int .i64 (↑(n - 32 - 32 * m) : Int)))], [(13, .rowX 2 C1)], 14⟩) (by kernel_rfl) (by kernel_rfl) ?_
      refine AG.gk [] [(2, { val := .ex (.int .i64 (↑(d - 16) : Int)) }), (3, useR [(0, 13, 0)] 26 ({ val := .o 1 0 (2 * m + 1 + 1), upd := [(1, .rowX 2 C2)], nks := [1], wks := [0], kill := [0] }))] [3] [26] 27 (st' := ⟨mkT 29 [(3, .o 26 0 (2 * m + 1 + 1))], [(26, .rowX 2 C2)], 27⟩) (obs := [Ob.eq (.ex (.int .i64 (IntKind.wrap .i64 ((↑(n - 32 - 32 * m) : Int) - 16)))) (.ex (.int .i64 (↑(d - 16) : Int))), Ob.call (fun g => List.lookup g []) 21 [.o 13 0 (2 * m + 1), .ex (.int .i64 7), .ex (.int .i64 (↑(d - 16) : Int))] [(13, .rowX 2 C1)] (useR [(0, 13, 0)] 26 { val := .o 1 0 (2 * m + 1 + 1), upd := [(1, .rowX 2 C2)], nks := [1], wks := [0], kill := [0] })]) (by kernel_rfl) (by kernel_rfl) ⟨(by simp only [Ob.holds, g4]), (CallOK.at0 [(0, 13, 0)] 26 (c4 ) (.cons (.o rfl rfl) (.cons (.ex _) (.cons (.ex _) .nil))) (.cons rfl rfl ⟨rfl, rfl⟩ .nil) (by kernel_rfl)), trivial⟩ ?_
      refine AG.rk 1 [3] [26] 27 (todo' := [.code (sub (codeOf Try.f22) [1, 0, 1, 1, 1, 1, 1, 1, 0]), .code (sub (codeOf Try.f22) [1, 0, 1, 1, 1, 1, 1, 1, 1]), .inScope (sub (codeOf Try.f22) [1, 0])]) (st' := ⟨mkT 29 [(3, .o 26 0 (2 * m + 1 + 1))], [(26, .rowX 2 C2)], 27⟩) (by kernel_rfl) (by kernel_rfl) ?_
      refine AG.gk [] [(1, useR [(0, 26, 0)] 31 ({ val := .o 1 0 (2 * m + 1 + 1 + 1), upd := [(1, .rowX 2 C3)], nks := [1], wks := [0], kill := [0] })), (2, useR [(0, 31, 0)] 35 ({ val := .o 1 0 (2 * m + 1 + 1 + 1 + 1), upd := [(1, .rowX 2 C4)], nks := [1], wks := [0], kill := [0] }))] [2] [35] 36 (st' := ⟨mkT 29 [(2, .o 35 0 (2 * m + 1 + 1 + 1 + 1))], [(35, .rowX 2 C4)], 36⟩) (obs := [Ob.call (fun g => List.lookup g []) 21 [.o 26 0 (2 * m + 1 + 1), .ex (.int .i64 8), .ex (.int .i64 16)] [(26, .rowX 2 C2)] (useR [(0, 26, 0)] 31 { val := .o 1 0 (2 * m + 1 + 1 + 1), upd := [(1, .rowX 2 C3)], nks := [1], wks := [0], kill := [0] }), Ob.call (fun g => List.lookup g []) 21 [.o 31 0 (2 * m + 1 + 1 + 1), .ex (.int .i64 9), .ex (.int .i64 16)] [(31, .rowX 2 C3)] (useR [(0, 31, 0)] 35 { val := .o 1 0 (2 * m + 1 + 1 + 1 + 1), upd := [(1, .rowX 2 C4)], nks := [1], wks := [0], kill := [0] })]) (by kernel_rfl) (by kernel_rfl) ⟨(CallOK.at0 [(0, 26, 0)] 31 (c5 ) (.cons (.o rfl rfl) (.cons (.ex _) (.cons (.ex _) .nil))) (.cons rfl rfl ⟨rfl, rfl⟩ .nil) (by kernel_rfl)), (CallOK.at0 [(0, 31, 0)] 35 (c6 ) (.cons (.o rfl rfl) (.cons (.ex _) (.cons (.ex _) .nil))) (.cons rfl rfl ⟨rfl, rfl⟩ .nil) (by kernel_rfl)), trivial⟩ ?_
      refine AG.ren 35 0 (st' := ⟨mkT 29 [(2, .o 0 0 (2 * m + 1 + 1 + 1 + 1))], [(0, .rowX 2 C4)], 36⟩) (by kernel_rfl) (by kernel_rfl) ?_
      refine AG.fin ([.o 0 0 (2 * m + 1 + 1 + 1 + 1)]) Go.Proofs.Try.f22 fn22 (.inr ⟨_, rfl⟩) (obs := []) (by kernel_rfl) trivial (by kernel_rfl) ⟨(by kernel_rfl), trivial⟩ (by kernel_rfl)
/-- Why there are no parts: 0, or an error's number. -/
def refC (alg n : Int) : Int := if alg = 1 ∨ alg = 2 then (if n < 16 then 7 else if n > 65536 then 6 else 0) else if alg = 3 then (if n < 1 then 7 else if n > 65536 then 6 else 0) else 8
theorem refused_ok (alg n : Int) : CallOK Try.prog (fun _ => none) 20 [.ex (.int .i64 alg), .ex (.int .i64 n)] [] { val := .ex (.int .i64 (refC alg n)) } := by
  unfold refC
  by_cases a1 : alg = 1
  · subst a1
    rw [if_pos (.inl rfl)]
    by_cases h1 : n < 16
    · have g1 : decide (n < 16) = true := by simp; omega
      rw [if_pos h1]
      refine CallOK.from0 hmix Try.f20 0 fn20 (by kernel_rfl) (by kernel_rfl) (fun w ρ h1 h2 => ?_)
      refine AG.rk 18 [1, 5] [] 0 (todo' := [.code (sub (codeOf Try.f20) [1, 1, 1, 0, 0]), .code (sub (codeOf Try.f20) [1, 1, 1, 0, 1]), .code (sub (codeOf Try.f20) [1, 1, 1, 1])]) (st' := ⟨mkT 17 [(1, .ex (.int .i64 n)), (5, .ex (.int .i64 16))], [], 0⟩) (by kernel_rfl) (by kernel_rfl) ?_
      refine AG.gk [] [(2, { val := .ex (.bool true) })] [1, 14] [] 0 (st' := ⟨mkT 17 [(1, .ex (.int .i64 n)), (14, .ex (.bool true))], [], 0⟩) (obs := [Ob.eq (.ex (.bool (decide (n < 16)))) (.ex (.bool true))]) (by kernel_rfl) (by kernel_rfl) ⟨(by simp only [Ob.holds, g1]), trivial⟩ ?_
      refine AG.rk 3 [4] [] 0 (todo' := [.code (sub (codeOf Try.f20) [1, 1, 0, 1, 0, 1, 1, 1, 1, 1]), .code (sub (codeOf Try.f20) [1, 1, 1, 1])]) (st' := ⟨mkT 17 [(4, .ex (.int .i64 7))], [], 0⟩) (by kernel_rfl) (by kernel_rfl) ?_
      refine AG.fin ([.ex (.int .i64 7)]) Go.Proofs.Try.f20 fn20 (.inr ⟨_, rfl⟩) (obs := []) (by kernel_rfl) trivial (by kernel_rfl) trivial (by kernel_rfl)
    have g1 : decide (n < 16) = false := by simp; omega
    rw [if_neg h1]
    by_cases h2 : n > 65536
    · have g2 : decide (n > 65536) = true := by simp; omega
      rw [if_pos h2]
      refine CallOK.from0 hmix Try.f20 0 fn20 (by kernel_rfl) (by kernel_rfl) (fun w ρ h1 h2 => ?_)
      refine AG.rk 18 [1, 5] [] 0 (todo' := [.code (sub (codeOf Try.f20) [1, 1, 1, 0, 0]), .code (sub (codeOf Try.f20) [1, 1, 1, 0, 1]), .code (sub (codeOf Try.f20) [1, 1, 1, 1])]) (st' := ⟨mkT 17 [(1, .ex (.int .i64 n)), (5, .ex (.int .i64 16))], [], 0⟩) (by kernel_rfl) (by kernel_rfl) ?_
      refine AG.gk [] [(2, { val := .ex (.bool false) })] [1, 14] [] 0 (st' := ⟨mkT 17 [(1, .ex (.int .i64 n)), (14, .ex (.bool false))], [], 0⟩) (obs := [Ob.eq (.ex (.bool (decide (n < 16)))) (.ex (.bool false))]) (by kernel_rfl) (by kernel_rfl) ⟨(by simp only [Ob.holds, g1]), trivial⟩ ?_
      refine AG.rk 4 [1] [] 0 (todo' := [.code (sub (codeOf Try.f20) [1, 1, 1, 1, 0, 0]), .code (sub (codeOf Try.f20) [1, 1, 1, 1, 0, 1]), .code (sub (codeOf Try.f20) [1, 1, 1, 1, 1])]) (st' := ⟨mkT 17 [(1, .ex (.int .i64 n))], [], 0⟩) (by kernel_rfl) (by kernel_rfl) ?_
      refine AG.gk [] [(1, { val := .ex (.bool true) })] [16] [] 0 (st' := ⟨mkT 17 [(16, .ex (.bool true))], [], 0⟩) (obs := [Ob.eq (.ex (.bool (decide (n > 65536)))) (.ex (.bool true))]) (by kernel_rfl) (by kernel_rfl) ⟨(by simp only [Ob.holds, g2]), trivial⟩ ?_
      refine AG.rk 3 [4] [] 0 (todo' := [.code (sub (codeOf Try.f20) [1, 1, 0, 1, 0, 1, 1, 1, 1, 1]), .code (sub (codeOf Try.f20) [1, 1, 1, 1, 1])]) (st' := ⟨mkT 17 [(4, .ex (.int .i64 6))], [], 0⟩) (by kernel_rfl) (by kernel_rfl) ?_
      refine AG.fin ([.ex (.int .i64 6)]) Go.Proofs.Try.f20 fn20 (.inr ⟨_, rfl⟩) (obs := []) (by kernel_rfl) trivial (by kernel_rfl) trivial (by kernel_rfl)
    · have g2 : decide (n > 65536) = false := by simp; omega
      rw [if_neg h2]
      refine CallOK.from0 hmix Try.f20 0 fn20 (by kernel_rfl) (by kernel_rfl) (fun w ρ h1 h2 => ?_)
      refine AG.rk 18 [1, 5] [] 0 (todo' := [.code (sub (codeOf Try.f20) [1, 1, 1, 0, 0]), .code (sub (codeOf Try.f20) [1, 1, 1, 0, 1]), .code (sub (codeOf Try.f20) [1, 1, 1, 1])]) (st' := ⟨mkT 17 [(1, .ex (.int .i64 n)), (5, .ex (.int .i64 16))], [], 0⟩) (by kernel_rfl) (by kernel_rfl) ?_
      refine AG.gk [] [(2, { val := .ex (.bool false) })] [1, 14] [] 0 (st' := ⟨mkT 17 [(1, .ex (.int .i64 n)), (14, .ex (.bool false))], [], 0⟩) (obs := [Ob.eq (.ex (.bool (decide (n < 16)))) (.ex (.bool false))]) (by kernel_rfl) (by kernel_rfl) ⟨(by simp only [Ob.holds, g1]), trivial⟩ ?_
      refine AG.rk 4 [1] [] 0 (todo' := [.code (sub (codeOf Try.f20) [1, 1, 1, 1, 0, 0]), .code (sub (codeOf Try.f20) [1, 1, 1, 1, 0, 1]), .code (sub (codeOf Try.f20) [1, 1, 1, 1, 1])]) (st' := ⟨mkT 17 [(1, .ex (.int .i64 n))], [], 0⟩) (by kernel_rfl) (by kernel_rfl) ?_
      refine AG.gk [] [(1, { val := .ex (.bool false) })] [16] [] 0 (st' := ⟨mkT 17 [(16, .ex (.bool false))], [], 0⟩) (obs := [Ob.eq (.ex (.bool (decide (n > 65536)))) (.ex (.bool false))]) (by kernel_rfl) (by kernel_rfl) ⟨(by simp only [Ob.holds, g2]), trivial⟩ ?_
      refine AG.rk 4 [4] [] 0 (todo' := [.code (sub (codeOf Try.f20) [1, 1, 0, 1, 0, 1, 1, 1, 1, 1])]) (st' := ⟨mkT 17 [(4, .ex (.int .i64 0))], [], 0⟩) (by kernel_rfl) (by kernel_rfl) ?_
      refine AG.fin ([.ex (.int .i64 0)]) Go.Proofs.Try.f20 fn20 (.inr ⟨_, rfl⟩) (obs := []) (by kernel_rfl) trivial (by kernel_rfl) trivial (by kernel_rfl)
  by_cases a2 : alg = 2
  · subst a2
    rw [if_pos (.inr rfl)]
    by_cases h1 : n < 16
    · have g1 : decide (n < 16) = true := by simp; omega
      rw [if_pos h1]
      refine CallOK.from0 hmix Try.f20 0 fn20 (by kernel_rfl) (by kernel_rfl) (fun w ρ h1 h2 => ?_)
      refine AG.rk 18 [1, 5] [] 0 (todo' := [.code (sub (codeOf Try.f20) [1, 1, 1, 0, 0]), .code (sub (codeOf Try.f20) [1, 1, 1, 0, 1]), .code (sub (codeOf Try.f20) [1, 1, 1, 1])]) (st' := ⟨mkT 17 [(1, .ex (.int .i64 n)), (5, .ex (.int .i64 16))], [], 0⟩) (by kernel_rfl) (by kernel_rfl) ?_
      refine AG.gk [] [(2, { val := .ex (.bool true) })] [1, 14] [] 0 (st' := ⟨mkT 17 [(1, .ex (.int .i64 n)), (14, .ex (.bool true))], [], 0⟩) (obs := [Ob.eq (.ex (.bool (decide (n < 16)))) (.ex (.bool true))]) (by kernel_rfl) (by kernel_rfl) ⟨(by simp only [Ob.holds, g1]), trivial⟩ ?_
      refine AG.rk 3 [4] [] 0 (todo' := [.code (sub (codeOf Try.f20) [1, 1, 0, 1, 0, 1, 1, 1, 1, 1]), .code (sub (codeOf Try.f20) [1, 1, 1, 1])]) (st' := ⟨mkT 17 [(4, .ex (.int .i64 7))], [], 0⟩) (by kernel_rfl) (by kernel_rfl) ?_
      refine AG.fin ([.ex (.int .i64 7)]) Go.Proofs.Try.f20 fn20 (.inr ⟨_, rfl⟩) (obs := []) (by kernel_rfl) trivial (by kernel_rfl) trivial (by kernel_rfl)
    have g1 : decide (n < 16) = false := by simp; omega
    rw [if_neg h1]
    by_cases h2 : n > 65536
    · have g2 : decide (n > 65536) = true := by simp; omega
      rw [if_pos h2]
      refine CallOK.from0 hmix Try.f20 0 fn20 (by kernel_rfl) (by kernel_rfl) (fun w ρ h1 h2 => ?_)
      refine AG.rk 18 [1, 5] [] 0 (todo' := [.code (sub (codeOf Try.f20) [1, 1, 1, 0, 0]), .code (sub (codeOf Try.f20) [1, 1, 1, 0, 1]), .code (sub (codeOf Try.f20) [1, 1, 1, 1])]) (st' := ⟨mkT 17 [(1, .ex (.int .i64 n)), (5, .ex (.int .i64 16))], [], 0⟩) (by kernel_rfl) (by kernel_rfl) ?_
      refine AG.gk [] [(2, { val := .ex (.bool false) })] [1, 14] [] 0 (st' := ⟨mkT 17 [(1, .ex (.int .i64 n)), (14, .ex (.bool false))], [], 0⟩) (obs := [Ob.eq (.ex (.bool (decide (n < 16)))) (.ex (.bool false))]) (by kernel_rfl) (by kernel_rfl) ⟨(by simp only [Ob.holds, g1]), trivial⟩ ?_
      refine AG.rk 4 [1] [] 0 (todo' := [.code (sub (codeOf Try.f20) [1, 1, 1, 1, 0, 0]), .code (sub (codeOf Try.f20) [1, 1, 1, 1, 0, 1]), .code (sub (codeOf Try.f20) [1, 1, 1, 1, 1])]) (st' := ⟨mkT 17 [(1, .ex (.int .i64 n))], [], 0⟩) (by kernel_rfl) (by kernel_rfl) ?_
      refine AG.gk [] [(1, { val := .ex (.bool true) })] [16] [] 0 (st' := ⟨mkT 17 [(16, .ex (.bool true))], [], 0⟩) (obs := [Ob.eq (.ex (.bool (decide (n > 65536)))) (.ex (.bool true))]) (by kernel_rfl) (by kernel_rfl) ⟨(by simp only [Ob.holds, g2]), trivial⟩ ?_
      refine AG.rk 3 [4] [] 0 (todo' := [.code (sub (codeOf Try.f20) [1, 1, 0, 1, 0, 1, 1, 1, 1, 1]), .code (sub (codeOf Try.f20) [1, 1, 1, 1, 1])]) (st' := ⟨mkT 17 [(4, .ex (.int .i64 6))], [], 0⟩) (by kernel_rfl) (by kernel_rfl) ?_
      refine AG.fin ([.ex (.int .i64 6)]) Go.Proofs.Try.f20 fn20 (.inr ⟨_, rfl⟩) (obs := []) (by kernel_rfl) trivial (by kernel_rfl) trivial (by kernel_rfl)
    · have g2 : decide (n > 65536) = false := by simp; omega
      rw [if_neg h2]
      refine CallOK.from0 hmix Try.f20 0 fn20 (by kernel_rfl) (by kernel_rfl) (fun w ρ h1 h2 => ?_)
      refine AG.rk 18 [1, 5] [] 0 (todo' := [.code (sub (codeOf Try.f20) [1, 1, 1, 0, 0]), .code (sub (codeOf Try.f20) [1, 1, 1, 0, 1]), .code (sub (codeOf Try.f20) [1, 1, 1, 1])]) (st' := ⟨mkT 17 [(1, .ex (.int .i64 n)), (5, .ex (.int .i64 16))], [], 0⟩) (by kernel_rfl) (by kernel_rfl) ?_
      refine AG.gk [] [(2, { val := .ex (.bool false) })] [1, 14] [] 0 (st' := ⟨mkT 17 [(1, .ex (.int .i64 n)), (14, .ex (.bool false))], [], 0⟩) (obs := [Ob.eq (.ex (.bool (decide (n < 16)))) (.ex (.bool false))]) (by kernel_rfl) (by kernel_rfl) ⟨(by simp only [Ob.holds, g1]), trivial⟩ ?_
      refine AG.rk 4 [1] [] 0 (todo' := [.code (sub (codeOf Try.f20) [1, 1, 1, 1, 0, 0]), .code (sub (codeOf Try.f20) [1, 1, 1, 1, 0, 1]), .code (sub (codeOf Try.f20) [1, 1, 1, 1, 1])]) (st' := ⟨mkT 17 [(1, .ex (.int .i64 n))], [], 0⟩) (by kernel_rfl) (by kernel_rfl) ?_
      refine AG.gk [] [(1, { val := .ex (.bool false) })] [16] [] 0 (st' := ⟨mkT 17 [(16, .ex (.bool false))], [], 0⟩) (obs := [Ob.eq (.ex (.bool (decide (n > 65536)))) (.ex (.bool false))]) (by kernel_rfl) (by kernel_rfl) ⟨(by simp only [Ob.holds, g2]), trivial⟩ ?_
      refine AG.rk 4 [4] [] 0 (todo' := [.code (sub (codeOf Try.f20) [1, 1, 0, 1, 0, 1, 1, 1, 1, 1])]) (st' := ⟨mkT 17 [(4, .ex (.int .i64 0))], [], 0⟩) (by kernel_rfl) (by kernel_rfl) ?_
      refine AG.fin ([.ex (.int .i64 0)]) Go.Proofs.Try.f20 fn20 (.inr ⟨_, rfl⟩) (obs := []) (by kernel_rfl) trivial (by kernel_rfl) trivial (by kernel_rfl)
  rw [if_neg (by omega)]
  by_cases a3 : alg = 3
  · subst a3
    rw [if_pos rfl]
    by_cases h1 : n < 1
    · have g1 : decide (n < 1) = true := by simp; omega
      rw [if_pos h1]
      refine CallOK.from0 hmix Try.f20 0 fn20 (by kernel_rfl) (by kernel_rfl) (fun w ρ h1 h2 => ?_)
      refine AG.rk 21 [1, 5] [] 0 (todo' := [.code (sub (codeOf Try.f20) [1, 1, 1, 0, 0]), .code (sub (codeOf Try.f20) [1, 1, 1, 0, 1]), .code (sub (codeOf Try.f20) [1, 1, 1, 1])]) (st' := ⟨mkT 17 [(1, .ex (.int .i64 n)), (5, .ex (.int .i64 1))], [], 0⟩) (by kernel_rfl) (by kernel_rfl) ?_
      refine AG.gk [] [(2, { val := .ex (.bool true) })] [1, 14] [] 0 (st' := ⟨mkT 17 [(1, .ex (.int .i64 n)), (14, .ex (.bool true))], [], 0⟩) (obs := [Ob.eq (.ex (.bool (decide (n < 1)))) (.ex (.bool true))]) (by kernel_rfl) (by kernel_rfl) ⟨(by simp only [Ob.holds, g1]), trivial⟩ ?_
      refine AG.rk 3 [4] [] 0 (todo' := [.code (sub (codeOf Try.f20) [1, 1, 0, 1, 0, 1, 1, 1, 1, 1]), .code (sub (codeOf Try.f20) [1, 1, 1, 1])]) (st' := ⟨mkT 17 [(4, .ex (.int .i64 7))], [], 0⟩) (by kernel_rfl) (by kernel_rfl) ?_
      refine AG.fin ([.ex (.int .i64 7)]) Go.Proofs.Try.f20 fn20 (.inr ⟨_, rfl⟩) (obs := []) (by kernel_rfl) trivial (by kernel_rfl) trivial (by kernel_rfl)
    have g1 : decide (n < 1) = false := by simp; omega
    rw [if_neg h1]
    by_cases h2 : n > 65536
    · have g2 : decide (n > 65536) = true := by simp; omega
      rw [if_pos h2]
      refine CallOK.from0 hmix Try.f20 0 fn20 (by kernel_rfl) (by kernel_rfl) (fun w ρ h1 h2 => ?_)
      refine AG.rk 21 [1, 5] [] 0 (todo' := [.code (sub (codeOf Try.f20) [1, 1, 1, 0, 0]), .code (sub (codeOf Try.f20) [1, 1, 1, 0, 1]), .code (sub (codeOf Try.f20) [1, 1, 1, 1])]) (st' := ⟨mkT 17 [(1, .ex (.int .i64 n)), (5, .ex (.int .i64 1))], [], 0⟩) (by kernel_rfl) (by kernel_rfl) ?_
      refine AG.gk [] [(2, { val := .ex (.bool false) })] [1, 14] [] 0 (st' := ⟨mkT 17 [(1, .ex (.int .i64 n)), (14, .ex (.bool false))], [], 0⟩) (obs := [Ob.eq (.ex (.bool (decide (n < 1)))) (.ex (.bool false))]) (by kernel_rfl) (by kernel_rfl) ⟨(by simp only [Ob.holds, g1]), trivial⟩ ?_
      refine AG.rk 4 [1] [] 0 (todo' := [.code (sub (codeOf Try.f20) [1, 1, 1, 1, 0, 0]), .code (sub (codeOf Try.f20) [1, 1, 1, 1, 0, 1]), .code (sub (codeOf Try.f20) [1, 1, 1, 1, 1])]) (st' := ⟨mkT 17 [(1, .ex (.int .i64 n))], [], 0⟩) (by kernel_rfl) (by kernel_rfl) ?_
      refine AG.gk [] [(1, { val := .ex (.bool true) })] [16] [] 0 (st' := ⟨mkT 17 [(16, .ex (.bool true))], [], 0⟩) (obs := [Ob.eq (.ex (.bool (decide (n > 65536)))) (.ex (.bool true))]) (by kernel_rfl) (by kernel_rfl) ⟨(by simp only [Ob.holds, g2]), trivial⟩ ?_
      refine AG.rk 3 [4] [] 0 (todo' := [.code (sub (codeOf Try.f20) [1, 1, 0, 1, 0, 1, 1, 1, 1, 1]), .code (sub (codeOf Try.f20) [1, 1, 1, 1, 1])]) (st' := ⟨mkT 17 [(4, .ex (.int .i64 6))], [], 0⟩) (by kernel_rfl) (by kernel_rfl) ?_
      refine AG.fin ([.ex (.int .i64 6)]) Go.Proofs.Try.f20 fn20 (.inr ⟨_, rfl⟩) (obs := []) (by kernel_rfl) trivial (by kernel_rfl) trivial (by kernel_rfl)
    · have g2 : decide (n > 65536) = false := by simp; omega
      rw [if_neg h2]
      refine CallOK.from0 hmix Try.f20 0 fn20 (by kernel_rfl) (by kernel_rfl) (fun w ρ h1 h2 => ?_)
      refine AG.rk 21 [1, 5] [] 0 (todo' := [.code (sub (codeOf Try.f20) [1, 1, 1, 0, 0]), .code (sub (codeOf Try.f20) [1, 1, 1, 0, 1]), .code (sub (codeOf Try.f20) [1, 1, 1, 1])]) (st' := ⟨mkT 17 [(1, .ex (.int .i64 n)), (5, .ex (.int .i64 1))], [], 0⟩) (by kernel_rfl) (by kernel_rfl) ?_
      refine AG.gk [] [(2, { val := .ex (.bool false) })] [1, 14] [] 0 (st' := ⟨mkT 17 [(1, .ex (.int .i64 n)), (14, .ex (.bool false))], [], 0⟩) (obs := [Ob.eq (.ex (.bool (decide (n < 1)))) (.ex (.bool false))]) (by kernel_rfl) (by kernel_rfl) ⟨(by simp only [Ob.holds, g1]), trivial⟩ ?_
      refine AG.rk 4 [1] [] 0 (todo' := [.code (sub (codeOf Try.f20) [1, 1, 1, 1, 0, 0]), .code (sub (codeOf Try.f20) [1, 1, 1, 1, 0, 1]), .code (sub (codeOf Try.f20) [1, 1, 1, 1, 1])]) (st' := ⟨mkT 17 [(1, .ex (.int .i64 n))], [], 0⟩) (by kernel_rfl) (by kernel_rfl) ?_
      refine AG.gk [] [(1, { val := .ex (.bool false) })] [16] [] 0 (st' := ⟨mkT 17 [(16, .ex (.bool false))], [], 0⟩) (obs := [Ob.eq (.ex (.bool (decide (n > 65536)))) (.ex (.bool false))]) (by kernel_rfl) (by kernel_rfl) ⟨(by simp only [Ob.holds, g2]), trivial⟩ ?_
      refine AG.rk 4 [4] [] 0 (todo' := [.code (sub (codeOf Try.f20) [1, 1, 0, 1, 0, 1, 1, 1, 1, 1])]) (st' := ⟨mkT 17 [(4, .ex (.int .i64 0))], [], 0⟩) (by kernel_rfl) (by kernel_rfl) ?_
      refine AG.fin ([.ex (.int .i64 0)]) Go.Proofs.Try.f20 fn20 (.inr ⟨_, rfl⟩) (obs := []) (by kernel_rfl) trivial (by kernel_rfl) trivial (by kernel_rfl)
  · rw [if_neg a3]
    have b1 : (alg == 1) = false := by simp; omega
    have b2 : (alg == 2) = false := by simp; omega
    have b3 : (alg == 3) = false := by simp; omega
    refine CallOK.from0 hmix Try.f20 0 fn20 (by kernel_rfl) (by kernel_rfl) (fun w ρ h1 h2 => ?_)
    refine AG.rk 10 [1, 5, 6] [] 0 (todo' := [.code (sub (codeOf Try.f20) [1, 1, 0, 1, 0, 0, 0]), .code (sub (codeOf Try.f20) [1, 1, 0, 1, 0, 0, 1]), .code (sub (codeOf Try.f20) [1, 1, 0, 1, 0, 1]), .inBlock 0, .code (sub (codeOf Try.f20) [1, 1, 1])]) (st' := ⟨mkT 17 [(1, .ex (.int .i64 n)), (5, .ex (.int .i64 16)), (6, .ex (.int .i64 alg))], [], 0⟩) (by kernel_rfl) (by kernel_rfl) ?_
    refine AG.gk [] [(0, { val := .ex (.bool false) })] [1, 5, 6, 7] [] 0 (st' := ⟨mkT 17 [(1, .ex (.int .i64 n)), (5, .ex (.int .i64 16)), (6, .ex (.int .i64 alg)), (7, .ex (.bool false))], [], 0⟩) (obs := [Ob.eq (.ex (.bool (alg == 1))) (.ex (.bool false))]) (by kernel_rfl) (by kernel_rfl) ⟨(by simp only [Ob.holds, b1]), trivial⟩ ?_
    refine AG.rk 1 [1, 5, 6] [] 0 (todo' := [.code (sub (codeOf Try.f20) [1, 1, 0, 1, 0, 0, 1, 1]), .code (sub (codeOf Try.f20) [1, 1, 0, 1, 0, 1]), .inBlock 0, .code (sub (codeOf Try.f20) [1, 1, 1])]) (st' := ⟨mkT 17 [(1, .ex (.int .i64 n)), (5, .ex (.int .i64 16)), (6, .ex (.int .i64 alg))], [], 0⟩) (by kernel_rfl) (by kernel_rfl) ?_
    refine AG.gk [] [(0, { val := .ex (.bool false) })] [1, 5, 6, 7] [] 0 (st' := ⟨mkT 17 [(1, .ex (.int .i64 n)), (5, .ex (.int .i64 16)), (6, .ex (.int .i64 alg)), (7, .ex (.bool false))], [], 0⟩) (obs := [Ob.eq (.ex (.bool (alg == 2))) (.ex (.bool false))]) (by kernel_rfl) (by kernel_rfl) ⟨(by simp only [Ob.holds, b2]), trivial⟩ ?_
    refine AG.rk 2 [1, 6] [] 0 (todo' := [.code (sub (codeOf Try.f20) [1, 1, 0, 1, 0, 1, 1, 0]), .code (sub (codeOf Try.f20) [1, 1, 0, 1, 0, 1, 1, 1]), .inBlock 0, .code (sub (codeOf Try.f20) [1, 1, 1])]) (st' := ⟨mkT 17 [(1, .ex (.int .i64 n)), (6, .ex (.int .i64 alg))], [], 0⟩) (by kernel_rfl) (by kernel_rfl) ?_
    refine AG.gk [] [(0, { val := .ex (.bool false) })] [1, 10] [] 0 (st' := ⟨mkT 17 [(1, .ex (.int .i64 n)), (10, .ex (.bool false))], [], 0⟩) (obs := [Ob.eq (.ex (.bool (alg == 3))) (.ex (.bool false))]) (by kernel_rfl) (by kernel_rfl) ⟨(by simp only [Ob.holds, b3]), trivial⟩ ?_
    refine AG.rk 3 [4] [] 0 (todo' := [.code (sub (codeOf Try.f20) [1, 1, 0, 1, 0, 1, 1, 1, 1, 1]), .inBlock 0, .code (sub (codeOf Try.f20) [1, 1, 1])]) (st' := ⟨mkT 17 [(4, .ex (.int .i64 8))], [], 0⟩) (by kernel_rfl) (by kernel_rfl) ?_
    refine AG.fin ([.ex (.int .i64 8)]) Go.Proofs.Try.f20 fn20 (.inr ⟨_, rfl⟩) (obs := []) (by kernel_rfl) trivial (by kernel_rfl) trivial (by kernel_rfl)
theorem partsno_ok (alg n : Int) (h : refC alg n ≠ 0) : CallOK Try.prog (fun _ => none) 11 [.ex (.int .i64 alg), .ex (.int .i64 n)] [] { val := .tup [.ex (.slice none 0 0), .ex (.int .i64 (refC alg n))] } := by
  have cr := refused_ok alg n
  have g0 : (refC alg n != 0) = true := by simp; omega
  generalize refC alg n = e at *
  refine CallOK.from0 hmix Try.f11 0 fn11 (by kernel_rfl) (by kernel_rfl) (fun w ρ h1 h2 => ?_)
  refine AG.rk 4 [0, 1] [] 0 (todo' := [.code (sub (codeOf Try.f11) [1, 0, 0]), .code (sub (codeOf Try.f11) [1, 0, 1]), .code (sub (codeOf Try.f11) [1, 1])]) (st' := ⟨mkT 34 [(0, .ex (.int .i64 alg)), (1, .ex (.int .i64 n))], [], 0⟩) (by kernel_rfl) (by kernel_rfl) ?_
  refine AG.gk [] [(2, { val := .ex (.int .i64 e) })] [0, 1, 6] [] 0 (st' := ⟨mkT 34 [(0, .ex (.int .i64 alg)), (1, .ex (.int .i64 n)), (6, .ex (.int .i64 e))], [], 0⟩) (obs := [Ob.call (fun g => List.lookup g []) 20 [.ex (.int .i64 alg), .ex (.int .i64 n)] [] { val := .ex (.int .i64 e) }]) (by kernel_rfl) (by kernel_rfl) ⟨((cr ).gl), trivial⟩ ?_
  refine AG.rk 1 [0, 1, 6] [] 0 (todo' := [.code (sub (codeOf Try.f11) [1, 0, 1, 0]), .code (sub (codeOf Try.f11) [1, 0, 1, 1]), .code (sub (codeOf Try.f11) [1, 1])]) (st' := ⟨mkT 34 [(0, .ex (.int .i64 alg)), (1, .ex (.int .i64 n)), (6, .ex (.int .i64 e))], [], 0⟩) (by kernel_rfl) (by kernel_rfl) ?_
  refine AG.gk [] [(1, { val := .ex (.bool true) })] [0, 1, 6, 11] [] 0 (st' := ⟨mkT 34 [(0, .ex (.int .i64 alg)), (1, .ex (.int .i64 n)), (6, .ex (.int .i64 e)), (11, .ex (.bool true))], [], 0⟩) (obs := [Ob.eq (.ex (.bool (e != 0))) (.ex (.bool true))]) (by kernel_rfl) (by kernel_rfl) ⟨(by simp only [Ob.holds, g0]), trivial⟩ ?_
  refine AG.rk 3 [4, 5] [] 0 (todo' := [.code (sub (codeOf Try.f11) [1, 0, 1, 1, 0, 1]), .code (sub (codeOf Try.f11) [1, 1])]) (st' := ⟨mkT 34 [(4, .ex (.slice none 0 0)), (5, .ex (.int .i64 e))], [], 0⟩) (by kernel_rfl) (by kernel_rfl) ?_
  refine AG.fin ([.ex (.slice none 0 0), .ex (.int .i64 e)]) Go.Proofs.Try.f11 fn11 (.inr ⟨_, rfl⟩) (obs := []) (by kernel_rfl) trivial (by kernel_rfl) trivial (by kernel_rfl)
/-- The parts of a message. -/
def partL (alg n : Nat) : List (Nat × Nat × Nat) := if alg = 1 then [(1, 0, n - 16)] ++ [(2, n - 16, 16)] else if alg = 2 then [(3, 0, 16)] ++ [(1, 16, n - 16)] else if n < 32 then [(10, 0, n)] ++ [(11, n, n)] else aezL n
theorem parts_ok (alg n : Nat) (ha : alg = 1 ∨ alg = 2 ∨ alg = 3) (hn : n ≤ 65536) (h1 : 1 ≤ n) (h16 : alg ≠ 3 → 16 ≤ n) : CallOK Try.prog (fun _ => none) 11 [.ex (.int .i64 (alg : Int)), .ex (.int .i64 (n : Int))] [] { val := .tup [.o 0 0 (partL alg n).length, .ex (.int .i64 0)], upd := [(0, .rowX 2 (pc (partL alg n)))], nks := [0] } := by
  have hrc : refC (alg : Int) (n : Int) = 0 := by
    unfold refC
    rcases ha with h | h | h
    · subst h; rw [if_pos (.inl rfl), if_neg (by omega), if_neg (by omega)]
    · subst h; rw [if_pos (.inr rfl), if_neg (by omega), if_neg (by omega)]
    · subst h; rw [if_neg (by omega), if_pos (by omega), if_neg (by omega), if_neg (by omega)]
  have cr := refused_ok (alg : Int) (n : Int)
  rw [hrc] at cr
  rcases ha with h | h | h
  · subst h
    have hL : partL 1 n = [(1, 0, n - 16)] ++ [(2, n - 16, 16)] := if_pos rfl
    have e1 : IntKind.i64.wrap ((n : Int) - 16) = ((n - 16 : Nat) : Int) := by rw [wrap64_id _ (by omega) (by omega)]; omega
    have c1 := laidnil_ok 1 (n - 16) (by omega)
    have c2 := laidE_ok [(1, 0, n - 16)] (by simp) (n - 16) (by show 0 + (n - 16) = n - 16; omega) (by omega) 2 16 (by omega)
    rw [hL, show ([(1, 0, n - 16)] ++ [(2, n - 16, 16)] : List (Nat × Nat × Nat)).length = 2 from rfl]
    rw [show [(1, 0, n - 16)].length = 1 from rfl] at c2
    generalize pc ([(1, 0, n - 16)] ++ [(2, n - 16, 16)]) = C1 at *
    generalize pc [(1, 0, n - 16)] = C0 at *
    refine CallOK.from0 hmix Try.f11 0 fn11 (by kernel_rfl) (by kernel_rfl) (fun w ρ h1 h2 => ?_)
    refine AG.rk 4 [0, 1] [] 0 (todo' := [.code (sub (codeOf Try.f11) [1, 0, 0]), .code (sub (codeOf Try.f11) [1, 0, 1]), .code (sub (codeOf Try.f11) [1, 1])]) (st' := ⟨mkT 34 [(0, .ex (.int .i64 1)), (1, .ex (.int .i64 (↑n : Int)))], [], 0⟩) (by kernel_rfl) (by kernel_rfl) ?_
    refine AG.gk [] [(2, { val := .ex (.int .i64 0) })] [0, 1, 6] [] 0 (st' := ⟨mkT 34 [(0, .ex (.int .i64 1)), (1, .ex (.int .i64 (↑n : Int))), (6, .ex (.int .i64 0))], [], 0⟩) (obs := [Ob.call (fun g => List.lookup g []) 20 [.ex (.int .i64 1), .ex (.int .i64 (↑n : Int))] [] { val := .ex (.int .i64 0) }]) (by kernel_rfl) (by kernel_rfl) ⟨((cr ).gl), trivial⟩ ?_
    refine AG.rk 12 [1] [] 0 (todo' := [.code (sub (codeOf Try.f11) [1, 1, 0, 1, 0, 1, 0, 0]), .code (sub (codeOf Try.f11) [1, 0, 1, 1, 0, 1]), .inBlock 0, .code (sub (codeOf Try.f11) [1, 1, 1])]) (st' := ⟨mkT 34 [(1, .ex (.int .i64 (↑n : Int)))], [], 0⟩) (by kernel_rfl) (by kernel_rfl) ?_
    refine AG.gk [] [(1, { val := .ex (.int .i64 (↑(n - 16) : Int)) }), (2, useR [] 8 ({ val := .o 0 0 1, upd := [(0, .rowX 2 C0)], nks := [0] })), (3, useR [(0, 8, 0)] 12 ({ val := .o 1 0 (1 + 1), upd := [(1, .rowX 2 C1)], nks := [1], wks := [0], kill := [0] }))] [4, 5] [12] 13 (st' := ⟨mkT 34 [(4, .o 12 0 2), (5, .ex (.int .i64 0))], [(12, .rowX 2 C1)], 13⟩) (obs := [Ob.eq (.ex (.int .i64 (IntKind.wrap .i64 ((↑n : Int) - 16)))) (.ex (.int .i64 (↑(n - 16) : Int))), Ob.call (fun g => List.lookup g []) 21 [.ex (.slice none 0 0), .ex (.int .i64 1), .ex (.int .i64 (↑(n - 16) : Int))] [] (useR [] 8 { val := .o 0 0 1, upd := [(0, .rowX 2 C0)], nks := [0] }), Ob.call (fun g => List.lookup g []) 21 [.o 8 0 1, .ex (.int .i64 2), .ex (.int .i64 16)] [(8, .rowX 2 C0)] (useR [(0, 8, 0)] 12 { val := .o 1 0 (1 + 1), upd := [(1, .rowX 2 C1)], nks := [1], wks := [0], kill := [0] })]) (by kernel_rfl) (by kernel_rfl) ⟨(by simp only [Ob.holds, e1]), (CallOK.at0 [] 8 (c1 ) (.cons (.ex _) (.cons (.ex _) (.cons (.ex _) .nil))) .nil (by kernel_rfl)), (CallOK.at0 [(0, 8, 0)] 12 (c2 ) (.cons (.o rfl rfl) (.cons (.ex _) (.cons (.ex _) .nil))) (.cons rfl rfl ⟨rfl, rfl⟩ .nil) (by kernel_rfl)), trivial⟩ ?_
    refine AG.ren 12 0 (st' := ⟨mkT 34 [(4, .o 0 0 2), (5, .ex (.int .i64 0))], [(0, .rowX 2 C1)], 13⟩) (by kernel_rfl) (by kernel_rfl) ?_
    refine AG.fin ([.o 0 0 2, .ex (.int .i64 0)]) Go.Proofs.Try.f11 fn11 (.inr ⟨_, rfl⟩) (obs := []) (by kernel_rfl) trivial (by kernel_rfl) ⟨(by kernel_rfl), trivial⟩ (by kernel_rfl)
  · subst h
    have hL : partL 2 n = [(3, 0, 16)] ++ [(1, 16, n - 16)] := by unfold partL; rw [if_neg (by decide), if_pos rfl]
    have e1 : IntKind.i64.wrap ((n : Int) - 16) = ((n - 16 : Nat) : Int) := by rw [wrap64_id _ (by omega) (by omega)]; omega
    have c1 := laidnil_ok 3 16 (by omega)
    have c2 := laidE_ok [(3, 0, 16)] (by decide) 16 rfl (by omega) 1 (n - 16) (by omega)
    rw [hL, show ([(3, 0, 16)] ++ [(1, 16, n - 16)] : List (Nat × Nat × Nat)).length = 2 from rfl]
    rw [show [(3, 0, 16)].length = 1 from rfl] at c2
    generalize pc ([(3, 0, 16)] ++ [(1, 16, n - 16)]) = C1 at *
    generalize pc [(3, 0, 16)] = C0 at *
    refine CallOK.from0 hmix Try.f11 0 fn11 (by kernel_rfl) (by kernel_rfl) (fun w ρ h1 h2 => ?_)
    refine AG.rk 4 [0, 1] [] 0 (todo' := [.code (sub (codeOf Try.f11) [1, 0, 0]), .code (sub (codeOf Try.f11) [1, 0, 1]), .code (sub (codeOf Try.f11) [1, 1])]) (st' := ⟨mkT 34 [(0, .ex (.int .i64 2)), (1, .ex (.int .i64 (↑n : Int)))], [], 0⟩) (by kernel_rfl) (by kernel_rfl) ?_
    refine AG.gk [] [(2, { val := .ex (.int .i64 0) })] [0, 1, 6] [] 0 (st' := ⟨mkT 34 [(0, .ex (.int .i64 2)), (1, .ex (.int .i64 (↑n : Int))), (6, .ex (.int .i64 0))], [], 0⟩) (obs := [Ob.call (fun g => List.lookup g []) 20 [.ex (.int .i64 2), .ex (.int .i64 (↑n : Int))] [] { val := .ex (.int .i64 0) }]) (by kernel_rfl) (by kernel_rfl) ⟨((cr ).gl), trivial⟩ ?_
    refine AG.rk 15 [1] [] 0 (todo' := [.code (sub (codeOf Try.f11) [1, 1, 0, 1, 0, 1, 1, 1, 0, 0]), .code (sub (codeOf Try.f11) [1, 0, 1, 1, 0, 1]), .inBlock 0, .code (sub (codeOf Try.f11) [1, 1, 1])]) (st' := ⟨mkT 34 [(1, .ex (.int .i64 (↑n : Int)))], [], 0⟩) (by kernel_rfl) (by kernel_rfl) ?_
    refine AG.gk [] [(0, useR [] 0 ({ val := .o 0 0 1, upd := [(0, .rowX 2 C0)], nks := [0] })), (2, { val := .ex (.int .i64 (↑(n - 16) : Int)) }), (3, useR [(0, 0, 0)] 12 ({ val := .o 1 0 (1 + 1), upd := [(1, .rowX 2 C1)], nks := [1], wks := [0], kill := [0] }))] [4, 5] [12] 13 (st' := ⟨mkT 34 [(4, .o 12 0 2), (5, .ex (.int .i64 0))], [(12, .rowX 2 C1)], 13⟩) (obs := [Ob.call (fun g => List.lookup g []) 21 [.ex (.slice none 0 0), .ex (.int .i64 3), .ex (.int .i64 16)] [] (useR [] 0 { val := .o 0 0 1, upd := [(0, .rowX 2 C0)], nks := [0] }), Ob.eq (.ex (.int .i64 (IntKind.wrap .i64 ((↑n : Int) - 16)))) (.ex (.int .i64 (↑(n - 16) : Int))), Ob.call (fun g => List.lookup g []) 21 [.o 0 0 1, .ex (.int .i64 1), .ex (.int .i64 (↑(n - 16) : Int))] [(0, .rowX 2 C0)] (useR [(0, 0, 0)] 12 { val := .o 1 0 (1 + 1), upd := [(1, .rowX 2 C1)], nks := [1], wks := [0], kill := [0] })]) (by kernel_rfl) (by kernel_rfl) ⟨(CallOK.at0 [] 0 (c1 ) (.cons (.ex _) (.cons (.ex _) (.cons (.ex _) .nil))) .nil (by kernel_rfl)), (by simp only [Ob.holds, e1]), (CallOK.at0 [(0, 0, 0)] 12 (c2 ) (.cons (.o rfl rfl) (.cons (.ex _) (.cons (.ex _) .nil))) (.cons rfl rfl ⟨rfl, rfl⟩ .nil) (by kernel_rfl)), trivial⟩ ?_
    refine AG.ren 12 0 (st' := ⟨mkT 34 [(4, .o 0 0 2), (5, .ex (.int .i64 0))], [(0, .rowX 2 C1)], 13⟩) (by kernel_rfl) (by kernel_rfl) ?_
    refine AG.fin ([.o 0 0 2, .ex (.int .i64 0)]) Go.Proofs.Try.f11 fn11 (.inr ⟨_, rfl⟩) (obs := []) (by kernel_rfl) trivial (by kernel_rfl) ⟨(by kernel_rfl), trivial⟩ (by kernel_rfl)
  · subst h
    by_cases h32 : n < 32
    · have hL : partL 3 n = [(10, 0, n)] ++ [(11, n, n)] := by unfold partL; rw [if_neg (by decide), if_neg (by decide), if_pos h32]
      have g1 : decide ((n : Int) < 32) = true := by simp; omega
      have c1 := laidnil_ok 10 n (by omega)
      have c2 := laidE_ok [(10, 0, n)] (by simp) n (by show 0 + n = n; omega) (by omega) 11 n (by omega)
      rw [hL, show ([(10, 0, n)] ++ [(11, n, n)] : List (Nat × Nat × Nat)).length = 2 from rfl]
      rw [show [(10, 0, n)].length = 1 from rfl] at c2
      generalize pc ([(10, 0, n)] ++ [(11, n, n)]) = C1 at *
      generalize pc [(10, 0, n)] = C0 at *
      refine CallOK.from0 hmix Try.f11 0 fn11 (by kernel_rfl) (by kernel_rfl) (fun w ρ h1 h2 => ?_)
      refine AG.rk 4 [0, 1] [] 0 (todo' := [.code (sub (codeOf Try.f11) [1, 0, 0]), .code (sub (codeOf Try.f11) [1, 0, 1]), .code (sub (codeOf Try.f11) [1, 1])]) (st' := ⟨mkT 34 [(0, .ex (.int .i64 3)), (1, .ex (.int .i64 (↑n : Int)))], [], 0⟩) (by kernel_rfl) (by kernel_rfl) ?_
      refine AG.gk [] [(2, { val := .ex (.int .i64 0) })] [0, 1, 6] [] 0 (st' := ⟨mkT 34 [(0, .ex (.int .i64 3)), (1, .ex (.int .i64 (↑n : Int))), (6, .ex (.int .i64 0))], [], 0⟩) (obs := [Ob.call (fun g => List.lookup g []) 20 [.ex (.int .i64 3), .ex (.int .i64 (↑n : Int))] [] { val := .ex (.int .i64 0) }]) (by kernel_rfl) (by kernel_rfl) ⟨((cr ).gl), trivial⟩ ?_
      refine AG.rk 18 [1] [] 0 (todo' := [.code (sub (codeOf Try.f11) [1, 1, 1, 0, 0]), .code (sub (codeOf Try.f11) [1, 1, 1, 0, 1]), .code (sub (codeOf Try.f11) [1, 1, 1, 1])]) (st' := ⟨mkT 34 [(1, .ex (.int .i64 (↑n : Int)))], [], 0⟩) (by kernel_rfl) (by kernel_rfl) ?_
      refine AG.gk [] [(1, { val := .ex (.bool true) })] [1, 27] [] 0 (st' := ⟨mkT 34 [(1, .ex (.int .i64 (↑n : Int))), (27, .ex (.bool true))], [], 0⟩) (obs := [Ob.eq (.ex (.bool (decide ((↑n : Int) < 32)))) (.ex (.bool true))]) (by kernel_rfl) (by kernel_rfl) ⟨(by simp only [Ob.holds, g1]), trivial⟩ ?_
      refine AG.rk 2 [1] [] 0 (todo' := [.code (sub (codeOf Try.f11) [1, 1, 1, 0, 1, 0, 0]), .code (sub (codeOf Try.f11) [1, 0, 1, 1, 0, 1]), .code (sub (codeOf Try.f11) [1, 1, 1, 1])]) (st' := ⟨mkT 34 [(1, .ex (.int .i64 (↑n : Int)))], [], 0⟩) (by kernel_rfl) (by kernel_rfl) ?_
      refine AG.gk [] [(1, useR [] 4 ({ val := .o 0 0 1, upd := [(0, .rowX 2 C0)], nks := [0] })), (3, useR [(0, 4, 0)] 12 ({ val := .o 1 0 (1 + 1), upd := [(1, .rowX 2 C1)], nks := [1], wks := [0], kill := [0] }))] [4, 5] [12] 13 (st' := ⟨mkT 34 [(4, .o 12 0 2), (5, .ex (.int .i64 0))], [(12, .rowX 2 C1)], 13⟩) (obs := [Ob.call (fun g => List.lookup g []) 21 [.ex (.slice none 0 0), .ex (.int .i64 10), .ex (.int .i64 (↑n : Int))] [] (useR [] 4 { val := .o 0 0 1, upd := [(0, .rowX 2 C0)], nks := [0] }), Ob.call (fun g => List.lookup g []) 21 [.o 4 0 1, .ex (.int .i64 11), .ex (.int .i64 (↑n : Int))] [(4, .rowX 2 C0)] (useR [(0, 4, 0)] 12 { val := .o 1 0 (1 + 1), upd := [(1, .rowX 2 C1)], nks := [1], wks := [0], kill := [0] })]) (by kernel_rfl) (by kernel_rfl) ⟨(CallOK.at0 [] 4 (c1 ) (.cons (.ex _) (.cons (.ex _) (.cons (.ex _) .nil))) .nil (by kernel_rfl)), (CallOK.at0 [(0, 4, 0)] 12 (c2 ) (.cons (.o rfl rfl) (.cons (.ex _) (.cons (.ex _) .nil))) (.cons rfl rfl ⟨rfl, rfl⟩ .nil) (by kernel_rfl)), trivial⟩ ?_
      refine AG.ren 12 0 (st' := ⟨mkT 34 [(4, .o 0 0 2), (5, .ex (.int .i64 0))], [(0, .rowX 2 C1)], 13⟩) (by kernel_rfl) (by kernel_rfl) ?_
      refine AG.fin ([.o 0 0 2, .ex (.int .i64 0)]) Go.Proofs.Try.f11 fn11 (.inr ⟨_, rfl⟩) (obs := []) (by kernel_rfl) trivial (by kernel_rfl) ⟨(by kernel_rfl), trivial⟩ (by kernel_rfl)
    · have hL : partL 3 n = aezL n := by unfold partL; rw [if_neg (by decide), if_neg (by decide), if_neg h32]
      have g1 : decide ((n : Int) < 32) = false := by simp; omega
      have c1 := pairs_ok n (by omega) hn
      rw [hL]
      generalize (aezL n).length = q at *
      generalize pc (aezL n) = C at *
      refine CallOK.from0 hmix Try.f11 0 fn11 (by kernel_rfl) (by kernel_rfl) (fun w ρ h1 h2 => ?_)
      refine AG.rk 4 [0, 1] [] 0 (todo' := [.code (sub (codeOf Try.f11) [1, 0, 0]), .code (sub (codeOf Try.f11) [1, 0, 1]), .code (sub (codeOf Try.f11) [1, 1])]) (st' := ⟨mkT 34 [(0, .ex (.int .i64 3)), (1, .ex (.int .i64 (↑n : Int)))], [], 0⟩) (by kernel_rfl) (by kernel_rfl) ?_
      refine AG.gk [] [(2, { val := .ex (.int .i64 0) })] [0, 1, 6] [] 0 (st' := ⟨mkT 34 [(0, .ex (.int .i64 3)), (1, .ex (.int .i64 (↑n : Int))), (6, .ex (.int .i64 0))], [], 0⟩) (obs := [Ob.call (fun g => List.lookup g []) 20 [.ex (.int .i64 3), .ex (.int .i64 (↑n : Int))] [] { val := .ex (.int .i64 0) }]) (by kernel_rfl) (by kernel_rfl) ⟨((cr ).gl), trivial⟩ ?_
      refine AG.rk 18 [1] [] 0 (todo' := [.code (sub (codeOf Try.f11) [1, 1, 1, 0, 0]), .code (sub (codeOf Try.f11) [1, 1, 1, 0, 1]), .code (sub (codeOf Try.f11) [1, 1, 1, 1])]) (st' := ⟨mkT 34 [(1, .ex (.int .i64 (↑n : Int)))], [], 0⟩) (by kernel_rfl) (by kernel_rfl) ?_
      refine AG.gk [] [(1, { val := .ex (.bool false) })] [1, 27] [] 0 (st' := ⟨mkT 34 [(1, .ex (.int .i64 (↑n : Int))), (27, .ex (.bool false))], [], 0⟩) (obs := [Ob.eq (.ex (.bool (decide ((↑n : Int) < 32)))) (.ex (.bool false))]) (by kernel_rfl) (by kernel_rfl) ⟨(by simp only [Ob.holds, g1]), trivial⟩ ?_
      refine AG.rk 3 [1] [] 0 (todo' := [.code (sub (codeOf Try.f11) [1, 1, 1, 1, 0]), .code (sub (codeOf Try.f11) [1, 0, 1, 1, 0, 1])]) (st' := ⟨mkT 34 [(1, .ex (.int .i64 (↑n : Int)))], [], 0⟩) (by kernel_rfl) (by kernel_rfl) ?_
      refine AG.gk [] [(1, useR [] 4 ({ val := .o 0 0 q, upd := [(0, .rowX 2 C)], nks := [0] }))] [4, 5] [4] 5 (st' := ⟨mkT 34 [(4, .o 4 0 q), (5, .ex (.int .i64 0))], [(4, .rowX 2 C)], 5⟩) (obs := [Ob.call (fun g => List.lookup g []) 22 [.ex (.int .i64 (↑n : Int))] [] (useR [] 4 { val := .o 0 0 q, upd := [(0, .rowX 2 C)], nks := [0] })]) (by kernel_rfl) (by kernel_rfl) ⟨(CallOK.at0 [] 4 (c1 ) (.cons (.ex _) .nil) .nil (by kernel_rfl)), trivial⟩ ?_
      refine AG.ren 4 0 (st' := ⟨mkT 34 [(4, .o 0 0 q), (5, .ex (.int .i64 0))], [(0, .rowX 2 C)], 5⟩) (by kernel_rfl) (by kernel_rfl) ?_
      refine AG.fin ([.o 0 0 q, .ex (.int .i64 0)]) Go.Proofs.Try.f11 fn11 (.inr ⟨_, rfl⟩) (obs := []) (by kernel_rfl) trivial (by kernel_rfl) ⟨(by kernel_rfl), trivial⟩ (by kernel_rfl)
end Go.Proofs.Ytngmlkkcjjfiaaa.Ab
