/- Own: the reference's numbers at their places, as bytes (no statement is proved here). -/
import Derived.Test.YtddnfcgbfpbagaaR7b
import Derived.KernelRfl
namespace Go.Proofs.Ytddnfcgbfpbagaa.Ab
open Go.Proofs
set_option linter.unusedSimpArgs false
theorem fn79 : Try.prog.funcs[79]? = some Try.f79 := by kernel_rfl
def bytesT (n : Nat) : List Int := if h : n = 0 then [] else ((n % 256 : Nat) : Int) :: bytesT (n / 256)
  termination_by n
  decreasing_by omega
def bytesF : List Int → Int → List Int
  | [], c => bytesT c.toNat
  | x :: l, c => ((c + x) % 256) :: bytesF l ((c + x) / 256)
theorem bytesT_le (n : Nat) : leL (bytesT n) = n ∧ All8 (bytesT n) := by
  induction n using Nat.strongRecOn with
  | _ n ih =>
    unfold bytesT
    split
    · rename_i h; subst h; exact ⟨rfl, fun x hx => by cases hx⟩
    · rename_i h
      obtain ⟨h1, h2⟩ := ih (n / 256) (by omega)
      refine ⟨by unfold leL; rw [h1]; omega, fun x hx => ?_⟩
      rcases List.mem_cons.1 hx with rfl | hx
      · unfold R8; omega
      · exact h2 x hx
theorem bytesT_len (m n : Nat) (h : n < 256 ^ m) : (bytesT n).length ≤ m := by
  induction m generalizing n with
  | zero => unfold bytesT; rw [dif_pos (by simp at h; exact h)]; simp
  | succ m ih =>
    unfold bytesT
    split
    · simp
    · rw [List.length_cons]
      have : n / 256 < 256 ^ m := by rw [Nat.pow_succ] at h; omega
      have := ih _ this
      omega
def AllN (l : List Int) (B : Int) : Prop := ∀ x ∈ l, 0 ≤ x ∧ x ≤ B
theorem bytesF_le (l : List Int) (B : Int) (hl : AllN l B) (c : Int) (hc : 0 ≤ c) : leL (bytesF l c) = c + leL l ∧ All8 (bytesF l c) := by
  induction l generalizing c with
  | nil =>
    unfold bytesF
    obtain ⟨h1, h2⟩ := bytesT_le c.toNat
    exact ⟨by rw [h1]; simp [leL]; omega, h2⟩
  | cons x l ih =>
    have hx := hl x List.mem_cons_self
    obtain ⟨h1, h2⟩ := ih (fun y hy => hl y (List.mem_cons_of_mem _ hy)) ((c + x) / 256) (by omega)
    unfold bytesF
    refine ⟨by unfold leL; rw [h1]; omega, fun y hy => ?_⟩
    rcases List.mem_cons.1 hy with rfl | hy
    · unfold R8; omega
    · exact h2 y hy
theorem bytesF_len (l : List Int) (hl : AllN l 1000000000000000000) (c : Int) (hc : 0 ≤ c ∧ c ≤ 1000000000000000000) : (bytesF l c).length ≤ l.length + 8 := by
  induction l generalizing c with
  | nil => unfold bytesF; exact Nat.le_trans (bytesT_len 8 _ (by omega)) (by simp)
  | cons x l ih =>
    have hx := hl x List.mem_cons_self
    unfold bytesF
    rw [List.length_cons, List.length_cons]
    have := ih (fun y hy => hl y (List.mem_cons_of_mem _ hy)) ((c + x) / 256) (by omega)
    omega
theorem rbytes_ok (l : List Int) (hl : AllN l 1000000000000000000) (hn : l.length < 1000) : CallOK Try.prog (fun _ => none) 79 [.sv 0 0 l.length] [(0, .view (l.map (Value.int .i64)))] { val := .o 1 0 (bytesF l 0).length, upd := [(1, .row ((bytesF l 0).map (Value.int .u8)))], nks := [1] } := by
  refine CallOK.from0 hmix Try.f79 1 fn79 (by kernel_rfl) (by kernel_rfl) (fun w ρ h1 h2 => ?_)
  refine AG.rk 10 [0, 3, 4, 5] [0] 1 (todo' := [.code (sub (codeOf Try.f79) [1, 1, 1, 0, 1, 0]), .inBlock 0, .code (sub (codeOf Try.f79) [1, 1, 1, 1])]) (st' := ⟨mkT 35 [(0, .sv 0 0 (List.length l)), (3, .ex (.slice none 0 0)), (4, .ex (.int .i64 0)), (5, .ex (.int .i64 0))], [(0, .view (List.map (Value.int .i64) l))], 1⟩) (by kernel_rfl) (by kernel_rfl) ?_
  refine AG.rk 1 [0, 3, 4, 5] [0] 1 (todo' := [.code (sub (codeOf Try.f79) [1, 1, 1, 0, 1, 0, 0]), .inLoop (sub (codeOf Try.f79) [1, 1, 1, 0, 1, 0, 0]), .inBlock 0, .code (sub (codeOf Try.f79) [1, 1, 1, 1])]) (st' := ⟨mkT 35 [(0, .sv 0 0 (List.length l)), (3, .ex (.slice none 0 0)), (4, .ex (.int .i64 0)), (5, .ex (.int .i64 0))], [(0, .view (List.map (Value.int .i64) l))], 1⟩) (by kernel_rfl) (by kernel_rfl) ?_
  refine AG.nilrow 3 rfl rfl ?_
  refine AG.keep [0, 3, 4, 5] [0, 1] 2 rfl (by kernel_rfl) ?_
  have hlen := bytesF_len l hl 0 ⟨by decide, by decide⟩
  refine AG.indE (α := {x : Nat × Int × List Int // x.2.2.length = x.1 ∧ 0 ≤ x.2.1 ∧ x.2.1 ≤ 1000000000000000000 ∧ x.2.2 ++ bytesF (l.drop x.1) x.2.1 = bytesF l 0}) (fun x => (bytesF l 0).length - x.1.1)
    (fun x => ⟨mkT 35 [(0, .sv 0 0 l.length), (3, .o 1 0 x.1.2.2.length), (4, .ex (.int .i64 x.1.2.1)), (5, .ex (.int .i64 (x.1.1 : Int)))], [(0, .view (List.map (Value.int IntKind.i64) l)), (1, .row (x.1.2.2.map (Value.int .u8)))], 2⟩) ⟨(0, 0, []), rfl, Int.le_refl _, by decide, rfl⟩ (by kernel_rfl) ?_
  rintro ⟨⟨i, c, pre⟩, hp, hc0, hc1, hF⟩ ih
  simp only at hp hc0 hc1 hF ih ⊢
  have hib : i + (bytesF (l.drop i) c).length = (bytesF l 0).length := by rw [← hF, List.length_append, hp]
  have e5 : IntKind.i64.wrap ((i : Int) + 1) = ((i + 1 : Nat) : Int) := by rw [wrap64_id _ (by omega) (by omega)]; omega
  by_cases hi : i < l.length
  · have g1 : decide ((i : Int) < (l.length : Int)) = true := by simp; omega
    have hx := hl l[i] (List.getElem_mem _)
    have ex : (List.map (Value.int IntKind.i64) l).getD (0 + (i : Int).toNat * 1) undef = .int .i64 l[i] := by
      simp [List.getElem?_eq_getElem hi]
    have hd : l.drop i = l[i] :: l.drop (i + 1) := List.drop_eq_getElem_cons hi
    rw [hd] at hF hib
    generalize l[i] = x at *
    rw [bytesF] at hF hib
    rw [List.length_cons] at hib
    have w0 : IntKind.i64.wrap (c + x) = c + x := wrap64_id _ (by omega) (by omega)
    have w1 : IntKind.u8.wrap ((c + x).tmod 256) = (c + x) % 256 := by rw [Int.tmod_eq_emod_of_nonneg (by omega), wrap_u8]; omega
    have w2 : IntKind.i64.wrap ((c + x).tdiv 256) = (c + x) / 256 := by rw [Int.tdiv_eq_ediv_of_nonneg (by omega)]; exact wrap64_id _ (by omega) (by omega)
    refine AG.rk 2 [0, 3, 4, 5] [0, 1] 2 (todo' := [.code (sub (codeOf Try.f79) [1, 1, 1, 0, 1, 0, 0, 0, 0]), .code (sub (codeOf Try.f79) [1, 1, 1, 0, 1, 0, 0, 0, 1]), .code (sub (codeOf Try.f79) [1, 1, 1, 0, 1, 0, 0, 1]), .inLoop (sub (codeOf Try.f79) [1, 1, 1, 0, 1, 0, 0]), .inBlock 0, .code (sub (codeOf Try.f79) [1, 1, 1, 1])]) (st' := ⟨mkT 35 [(0, .sv 0 0 (List.length l)), (3, .o 1 0 (List.length pre)), (4, .ex (.int .i64 c)), (5, .ex (.int .i64 (↑i : Int)))], [(0, .view (List.map (Value.int .i64) l)), (1, .row (List.map (Value.int .u8) pre))], 2⟩) (by kernel_rfl) (by kernel_rfl) ?_
    refine AG.gk [] [(3, { val := .ex (.bool true) })] [0, 3, 4, 5, 13] [0, 1] 2 (st' := ⟨mkT 35 [(0, .sv 0 0 (List.length l)), (3, .o 1 0 (List.length pre)), (4, .ex (.int .i64 c)), (5, .ex (.int .i64 (↑i : Int))), (13, .ex (.bool true))], [(0, .view (List.map (Value.int .i64) l)), (1, .row (List.map (Value.int .u8) pre))], 2⟩) (obs := [Ob.eq (.ex (.bool (decide ((↑i : Int) < (↑(List.length l) : Int))))) (.ex (.bool true))]) (by kernel_rfl) (by kernel_rfl) ⟨(by simp only [Ob.holds, g1, ex]), trivial⟩ ?_
    refine AG.rk 6 [0, 3, 4, 5] [0, 1] 2 (todo' := [.code (sub (codeOf Try.f79) [1, 1, 1, 0, 1, 0, 0, 1, 0, 0, 0, 0]), .code (sub (codeOf Try.f79) [1, 1, 1, 0, 1, 0, 0, 1, 0, 0, 0, 1]), .code (sub (codeOf Try.f79) [1, 1, 1, 0, 1, 0, 0, 1, 0, 0, 1]), .inBlock 1, .code (sub (codeOf Try.f79) [1, 1, 1, 0, 1, 0, 0, 1, 1]), .inLoop (sub (codeOf Try.f79) [1, 1, 1, 0, 1, 0, 0]), .inBlock 0, .code (sub (codeOf Try.f79) [1, 1, 1, 1])]) (st' := ⟨mkT 35 [(0, .sv 0 0 (List.length l)), (3, .o 1 0 (List.length pre)), (4, .ex (.int .i64 c)), (5, .ex (.int .i64 (↑i : Int)))], [(0, .view (List.map (Value.int .i64) l)), (1, .row (List.map (Value.int .u8) pre))], 2⟩) (by kernel_rfl) (by kernel_rfl) ?_
    refine AG.gk [] [(3, { val := .ex (.bool true) })] [0, 3, 4, 5, 19] [0, 1] 2 (st' := ⟨mkT 35 [(0, .sv 0 0 (List.length l)), (3, .o 1 0 (List.length pre)), (4, .ex (.int .i64 c)), (5, .ex (.int .i64 (↑i : Int))), (19, .ex (.bool true))], [(0, .view (List.map (Value.int .i64) l)), (1, .row (List.map (Value.int .u8) pre))], 2⟩) (obs := [Ob.eq (.ex (.bool (decide ((↑i : Int) < (↑(List.length l) : Int))))) (.ex (.bool true))]) (by kernel_rfl) (by kernel_rfl) ⟨(by simp only [Ob.holds, g1, ex]), trivial⟩ ?_
    refine AG.rk 1 [0, 3, 4, 5] [0, 1] 2 (todo' := [.code (sub (codeOf Try.f79) [1, 1, 1, 0, 1, 0, 0, 1, 0, 0, 0, 1, 0]), .code (sub (codeOf Try.f79) [1, 1, 1, 0, 1, 0, 0, 1, 0, 0, 1]), .inBlock 1, .code (sub (codeOf Try.f79) [1, 1, 1, 0, 1, 0, 0, 1, 1]), .inLoop (sub (codeOf Try.f79) [1, 1, 1, 0, 1, 0, 0]), .inBlock 0, .code (sub (codeOf Try.f79) [1, 1, 1, 1])]) (st' := ⟨mkT 35 [(0, .sv 0 0 (List.length l)), (3, .o 1 0 (List.length pre)), (4, .ex (.int .i64 c)), (5, .ex (.int .i64 (↑i : Int)))], [(0, .view (List.map (Value.int .i64) l)), (1, .row (List.map (Value.int .u8) pre))], 2⟩) (by kernel_rfl) (by kernel_rfl) ?_
    refine AG.gk [3] [(4, { val := .ex (.int .i64 x) })] [0, 3, 4, 5] [0, 1] 2 (st' := ⟨mkT 35 [(0, .sv 0 0 (List.length l)), (3, .o 1 0 (List.length pre)), (4, .ex (.int .i64 (IntKind.wrap .i64 (c + x)))), (5, .ex (.int .i64 (↑i : Int)))], [(0, .view (List.map (Value.int .i64) l)), (1, .row (List.map (Value.int .u8) pre))], 2⟩) (obs := [Ob.ix (↑i : Int) (List.length l), Ob.eq (.ex (List.getD (List.map (Value.int .i64) l) (0 + Int.toNat (↑i : Int) * 1) undef)) (.ex (.int .i64 x)), Ob.le (0 + Int.toNat (↑i : Int) * 1 + 1) (List.length (List.map (Value.int .i64) l))]) (by kernel_rfl) (by kernel_rfl) ⟨(by (simp only [Ob.holds]; omega)), (by simp only [Ob.holds, g1, ex]), (by (simp [Ob.holds]; omega)), trivial⟩ ?_
    refine AG.rk 1 [0, 3, 4, 5] [0, 1] 2 (todo' := [.code (sub (codeOf Try.f79) [1, 1, 1, 0, 1, 0, 0, 1, 0, 0, 1, 0]), .code (sub (codeOf Try.f79) [1, 1, 1, 0, 1, 0, 0, 1, 0, 0, 1, 1]), .inBlock 1, .code (sub (codeOf Try.f79) [1, 1, 1, 0, 1, 0, 0, 1, 1]), .inLoop (sub (codeOf Try.f79) [1, 1, 1, 0, 1, 0, 0]), .inBlock 0, .code (sub (codeOf Try.f79) [1, 1, 1, 1])]) (st' := ⟨mkT 35 [(0, .sv 0 0 (List.length l)), (3, .o 1 0 (List.length pre)), (4, .ex (.int .i64 (IntKind.wrap .i64 (c + x)))), (5, .ex (.int .i64 (↑i : Int)))], [(0, .view (List.map (Value.int .i64) l)), (1, .row (List.map (Value.int .u8) pre))], 2⟩) (by kernel_rfl) (by kernel_rfl) ?_
    refine AG.gk [5] [] [0, 3, 4, 5] [0, 22] 23 (st' := ⟨mkT 35 [(0, .sv 0 0 (List.length l)), (3, .o 22 0 (List.length (List.map (Value.int .u8) pre) + List.length (List.take 1 (List.drop 0 [Value.int .u8 (IntKind.wrap .u8 (Int.tmod (IntKind.wrap .i64 (c + x)) 256))])))), (4, .ex (.int .i64 (IntKind.wrap .i64 (c + x)))), (5, .ex (.int .i64 (↑i : Int)))], [(0, .view (List.map (Value.int .i64) l)), (22, .row (List.map (Value.int .u8) pre ++ List.take 1 (List.drop 0 [Value.int .u8 (IntKind.wrap .u8 (Int.tmod (IntKind.wrap .i64 (c + x)) 256))])))], 23⟩) (obs := [Ob.le ((List.length (List.map (Value.int .u8) pre) + List.length (List.take 1 (List.drop 0 [Value.int .u8 (IntKind.wrap .u8 (Int.tmod (IntKind.wrap .i64 (c + x)) 256))]))) * 1) 140737488355328, Ob.le (List.length (List.map (Value.int .u8) pre) + List.length (List.take 1 (List.drop 0 [Value.int .u8 (IntKind.wrap .u8 (Int.tmod (IntKind.wrap .i64 (c + x)) 256))]))) 140737488355328, Ob.one [Value.int .u8 (IntKind.wrap .u8 (Int.tmod (IntKind.wrap .i64 (c + x)) 256))], Ob.le (List.length pre) (List.length (List.map (Value.int .u8) pre)), Ob.le (List.length (List.map (Value.int .u8) pre)) (List.length pre), Ob.le 1 1]) (by kernel_rfl) (by kernel_rfl) ⟨(by (simp [Ob.holds]; omega)), (by (simp [Ob.holds]; omega)), (by rfl), (by (simp [Ob.holds]; done)), (by (simp [Ob.holds]; done)), (Ob.holds_of_dec (by kernel_rfl)), trivial⟩ ?_
    refine AG.rk 4 [0, 3, 4, 5] [0, 22] 23 (todo' := [.code (sub (codeOf Try.f79) [1, 1, 1, 0, 1, 0, 0]), .inLoop (sub (codeOf Try.f79) [1, 1, 1, 0, 1, 0, 0]), .inBlock 0, .code (sub (codeOf Try.f79) [1, 1, 1, 1])]) (st' := ⟨mkT 35 [(0, .sv 0 0 (List.length l)), (3, .o 22 0 (List.length (List.map (Value.int .u8) pre) + List.length (List.take 1 (List.drop 0 [Value.int .u8 (IntKind.wrap .u8 (Int.tmod (IntKind.wrap .i64 (c + x)) 256))])))), (4, .ex (.int .i64 (IntKind.wrap .i64 (Int.tdiv (IntKind.wrap .i64 (c + x)) 256)))), (5, .ex (.int .i64 (IntKind.wrap .i64 ((↑i : Int) + 1))))], [(0, .view (List.map (Value.int .i64) l)), (22, .row (List.map (Value.int .u8) pre ++ List.take 1 (List.drop 0 [Value.int .u8 (IntKind.wrap .u8 (Int.tmod (IntKind.wrap .i64 (c + x)) 256))])))], 23⟩) (by kernel_rfl) (by kernel_rfl) ?_
    rw [w0, w1, w2, e5]
    have eA : (List.map (Value.int IntKind.u8) pre).length + (List.take 1 (List.drop 0 [Value.int IntKind.u8 ((c + x) % 256)])).length = (pre ++ [(c + x) % 256]).length := by simp
    have eB : List.map (Value.int IntKind.u8) pre ++ List.take 1 (List.drop 0 [Value.int IntKind.u8 ((c + x) % 256)]) = (pre ++ [(c + x) % 256]).map (Value.int IntKind.u8) := by simp
    rw [eA, eB]
    refine AG.ren 22 1 rfl (by kernel_rfl) ?_
    refine AG.keep [0, 3, 4, 5] [0, 1] 2 rfl (by kernel_rfl) ?_
    refine AG.conv (by kernel_rfl) (ih ⟨(i + 1, (c + x) / 256, pre ++ [(c + x) % 256]), by simp [hp], by simp only; omega, by simp only; omega, by simp only; rw [List.append_assoc]; exact hF⟩ (by simp only; omega))
  · have g1 : decide ((i : Int) < (l.length : Int)) = false := by simp; omega
    have hd : l.drop i = [] := List.drop_eq_nil_of_le (by omega)
    rw [hd, bytesF] at hF hib
    by_cases hc : 0 < c
    · have g2 : decide (c > 0) = true := by simpa using hc
      have hT : bytesT c.toNat = (c % 256) :: bytesT (c / 256).toNat := by
        rw [bytesT, dif_neg (by omega)]
        congr 1
        · omega
        · congr 1; omega
      rw [hT] at hF hib
      rw [List.length_cons] at hib
      have w1 : IntKind.u8.wrap (c.tmod 256) = c % 256 := by rw [Int.tmod_eq_emod_of_nonneg (by omega), wrap_u8]; omega
      have w2 : IntKind.i64.wrap (c.tdiv 256) = c / 256 := by rw [Int.tdiv_eq_ediv_of_nonneg (by omega)]; exact wrap64_id _ (by omega) (by omega)
      refine AG.rk 2 [0, 3, 4, 5] [0, 1] 2 (todo' := [.code (sub (codeOf Try.f79) [1, 1, 1, 0, 1, 0, 0, 0, 0]), .code (sub (codeOf Try.f79) [1, 1, 1, 0, 1, 0, 0, 0, 1]), .code (sub (codeOf Try.f79) [1, 1, 1, 0, 1, 0, 0, 1]), .inLoop (sub (codeOf Try.f79) [1, 1, 1, 0, 1, 0, 0]), .inBlock 0, .code (sub (codeOf Try.f79) [1, 1, 1, 1])]) (st' := ⟨mkT 35 [(0, .sv 0 0 (List.length l)), (3, .o 1 0 (List.length pre)), (4, .ex (.int .i64 c)), (5, .ex (.int .i64 (↑i : Int)))], [(0, .view (List.map (Value.int .i64) l)), (1, .row (List.map (Value.int .u8) pre))], 2⟩) (by kernel_rfl) (by kernel_rfl) ?_
      refine AG.gk [] [(3, { val := .ex (.bool false) }), (6, { val := .ex (.bool true) })] [0, 3, 4, 5, 13] [0, 1] 2 (st' := ⟨mkT 35 [(0, .sv 0 0 (List.length l)), (3, .o 1 0 (List.length pre)), (4, .ex (.int .i64 c)), (5, .ex (.int .i64 (↑i : Int))), (13, .ex (.bool true))], [(0, .view (List.map (Value.int .i64) l)), (1, .row (List.map (Value.int .u8) pre))], 2⟩) (obs := [Ob.eq (.ex (.bool (decide ((↑i : Int) < (↑(List.length l) : Int))))) (.ex (.bool false)), Ob.eq (.ex (.bool (decide (c > 0)))) (.ex (.bool true))]) (by kernel_rfl) (by kernel_rfl) ⟨(by simp only [Ob.holds, g1, g2]), (by simp only [Ob.holds, g1, g2]), trivial⟩ ?_
      refine AG.rk 6 [0, 3, 4, 5] [0, 1] 2 (todo' := [.code (sub (codeOf Try.f79) [1, 1, 1, 0, 1, 0, 0, 1, 0, 0, 0, 0]), .code (sub (codeOf Try.f79) [1, 1, 1, 0, 1, 0, 0, 1, 0, 0, 0, 1]), .code (sub (codeOf Try.f79) [1, 1, 1, 0, 1, 0, 0, 1, 0, 0, 1]), .inBlock 1, .code (sub (codeOf Try.f79) [1, 1, 1, 0, 1, 0, 0, 1, 1]), .inLoop (sub (codeOf Try.f79) [1, 1, 1, 0, 1, 0, 0]), .inBlock 0, .code (sub (codeOf Try.f79) [1, 1, 1, 1])]) (st' := ⟨mkT 35 [(0, .sv 0 0 (List.length l)), (3, .o 1 0 (List.length pre)), (4, .ex (.int .i64 c)), (5, .ex (.int .i64 (↑i : Int)))], [(0, .view (List.map (Value.int .i64) l)), (1, .row (List.map (Value.int .u8) pre))], 2⟩) (by kernel_rfl) (by kernel_rfl) ?_
      refine AG.gk [] [(3, { val := .ex (.bool false) })] [0, 3, 4, 5, 19] [0, 1] 2 (st' := ⟨mkT 35 [(0, .sv 0 0 (List.length l)), (3, .o 1 0 (List.length pre)), (4, .ex (.int .i64 c)), (5, .ex (.int .i64 (↑i : Int))), (19, .ex (.bool false))], [(0, .view (List.map (Value.int .i64) l)), (1, .row (List.map (Value.int .u8) pre))], 2⟩) (obs := [Ob.eq (.ex (.bool (decide ((↑i : Int) < (↑(List.length l) : Int))))) (.ex (.bool false))]) (by kernel_rfl) (by kernel_rfl) ⟨(by simp only [Ob.holds, g1, g2]), trivial⟩ ?_
      refine AG.rk 3 [0, 3, 4, 5] [0, 1] 2 (todo' := [.code (sub (codeOf Try.f79) [1, 1, 1, 0, 1, 0, 0, 1, 0, 0, 1, 0]), .code (sub (codeOf Try.f79) [1, 1, 1, 0, 1, 0, 0, 1, 0, 0, 1, 1]), .inBlock 1, .code (sub (codeOf Try.f79) [1, 1, 1, 0, 1, 0, 0, 1, 1]), .inLoop (sub (codeOf Try.f79) [1, 1, 1, 0, 1, 0, 0]), .inBlock 0, .code (sub (codeOf Try.f79) [1, 1, 1, 1])]) (st' := ⟨mkT 35 [(0, .sv 0 0 (List.length l)), (3, .o 1 0 (List.length pre)), (4, .ex (.int .i64 c)), (5, .ex (.int .i64 (↑i : Int)))], [(0, .view (List.map (Value.int .i64) l)), (1, .row (List.map (Value.int .u8) pre))], 2⟩) (by kernel_rfl) (by kernel_rfl) ?_
      refine AG.gk [5] [] [0, 3, 4, 5] [0, 22] 23 (st' := ⟨mkT 35 [(0, .sv 0 0 (List.length l)), (3, .o 22 0 (List.length (List.map (Value.int .u8) pre) + List.length (List.take 1 (List.drop 0 [Value.int .u8 (IntKind.wrap .u8 (Int.tmod c 256))])))), (4, .ex (.int .i64 c)), (5, .ex (.int .i64 (↑i : Int)))], [(0, .view (List.map (Value.int .i64) l)), (22, .row (List.map (Value.int .u8) pre ++ List.take 1 (List.drop 0 [Value.int .u8 (IntKind.wrap .u8 (Int.tmod c 256))])))], 23⟩) (obs := [Ob.le ((List.length (List.map (Value.int .u8) pre) + List.length (List.take 1 (List.drop 0 [Value.int .u8 (IntKind.wrap .u8 (Int.tmod c 256))]))) * 1) 140737488355328, Ob.le (List.length (List.map (Value.int .u8) pre) + List.length (List.take 1 (List.drop 0 [Value.int .u8 (IntKind.wrap .u8 (Int.tmod c 256))]))) 140737488355328, Ob.one [Value.int .u8 (IntKind.wrap .u8 (Int.tmod c 256))], Ob.le (List.length pre) (List.length (List.map (Value.int .u8) pre)), Ob.le (List.length (List.map (Value.int .u8) pre)) (List.length pre), Ob.le 1 1]) (by kernel_rfl) (by kernel_rfl) ⟨(by (simp [Ob.holds]; omega)), (by (simp [Ob.holds]; omega)), (by rfl), (by (simp [Ob.holds]; done)), (by (simp [Ob.holds]; done)), (Ob.holds_of_dec (by kernel_rfl)), trivial⟩ ?_
      refine AG.rk 4 [0, 3, 4, 5] [0, 22] 23 (todo' := [.code (sub (codeOf Try.f79) [1, 1, 1, 0, 1, 0, 0]), .inLoop (sub (codeOf Try.f79) [1, 1, 1, 0, 1, 0, 0]), .inBlock 0, .code (sub (codeOf Try.f79) [1, 1, 1, 1])]) (st' := ⟨mkT 35 [(0, .sv 0 0 (List.length l)), (3, .o 22 0 (List.length (List.map (Value.int .u8) pre) + List.length (List.take 1 (List.drop 0 [Value.int .u8 (IntKind.wrap .u8 (Int.tmod c 256))])))), (4, .ex (.int .i64 (IntKind.wrap .i64 (Int.tdiv c 256)))), (5, .ex (.int .i64 (IntKind.wrap .i64 ((↑i : Int) + 1))))], [(0, .view (List.map (Value.int .i64) l)), (22, .row (List.map (Value.int .u8) pre ++ List.take 1 (List.drop 0 [Value.int .u8 (IntKind.wrap .u8 (Int.tmod c 256))])))], 23⟩) (by kernel_rfl) (by kernel_rfl) ?_
      rw [w1, w2, e5]
      have eA : (List.map (Value.int IntKind.u8) pre).length + (List.take 1 (List.drop 0 [Value.int IntKind.u8 (c % 256)])).length = (pre ++ [c % 256]).length := by simp
      have eB : List.map (Value.int IntKind.u8) pre ++ List.take 1 (List.drop 0 [Value.int IntKind.u8 (c % 256)]) = (pre ++ [c % 256]).map (Value.int IntKind.u8) := by simp
      rw [eA, eB]
      refine AG.ren 22 1 rfl (by kernel_rfl) ?_
      refine AG.keep [0, 3, 4, 5] [0, 1] 2 rfl (by kernel_rfl) ?_
      refine AG.conv (by kernel_rfl) (ih ⟨(i + 1, c / 256, pre ++ [c % 256]), by simp [hp], by simp only; omega, by simp only; omega, by simp only; rw [List.append_assoc, List.drop_eq_nil_of_le (by omega), bytesF]; exact hF⟩ (by simp only; omega))
    · have g2 : decide (c > 0) = false := by simpa using hc
      obtain rfl : c = 0 := by omega
      have hT : bytesT (0 : Int).toNat = [] := by rw [bytesT]; simp
      rw [hT, List.append_nil] at hF
      subst hF
      refine AG.rk 2 [0, 3, 4, 5] [0, 1] 2 (todo' := [.code (sub (codeOf Try.f79) [1, 1, 1, 0, 1, 0, 0, 0, 0]), .code (sub (codeOf Try.f79) [1, 1, 1, 0, 1, 0, 0, 0, 1]), .code (sub (codeOf Try.f79) [1, 1, 1, 0, 1, 0, 0, 1]), .inLoop (sub (codeOf Try.f79) [1, 1, 1, 0, 1, 0, 0]), .inBlock 0, .code (sub (codeOf Try.f79) [1, 1, 1, 1])]) (st' := ⟨mkT 35 [(0, .sv 0 0 (List.length l)), (3, .o 1 0 (List.length (bytesF l 0))), (4, .ex (.int .i64 0)), (5, .ex (.int .i64 (↑i : Int)))], [(0, .view (List.map (Value.int .i64) l)), (1, .row (List.map (Value.int .u8) (bytesF l 0)))], 2⟩) (by kernel_rfl) (by kernel_rfl) ?_
      refine AG.gk [] [(3, { val := .ex (.bool false) })] [0, 3, 4, 5, 13] [0, 1] 2 (st' := ⟨mkT 35 [(0, .sv 0 0 (List.length l)), (3, .o 1 0 (List.length (bytesF l 0))), (4, .ex (.int .i64 0)), (5, .ex (.int .i64 (↑i : Int))), (13, .ex (.bool false))], [(0, .view (List.map (Value.int .i64) l)), (1, .row (List.map (Value.int .u8) (bytesF l 0)))], 2⟩) (obs := [Ob.eq (.ex (.bool (decide ((↑i : Int) < (↑(List.length l) : Int))))) (.ex (.bool false))]) (by kernel_rfl) (by kernel_rfl) ⟨(by simp only [Ob.holds, g1, g2]), trivial⟩ ?_
      refine AG.rk 4 [2] [0, 1] 2 (todo' := [.code (sub (codeOf Try.f79) [1, 1, 1, 1, 1])]) (st' := ⟨mkT 35 [(2, .o 1 0 (List.length (bytesF l 0)))], [(0, .view (List.map (Value.int .i64) l)), (1, .row (List.map (Value.int .u8) (bytesF l 0)))], 2⟩) (by kernel_rfl) (by kernel_rfl) ?_
      refine AG.fin ([.o 1 0 (List.length (bytesF l 0))]) Go.Proofs.Try.f79 fn79 (.inr ⟨_, rfl⟩) (obs := []) (by kernel_rfl) trivial (by kernel_rfl) ⟨(by kernel_rfl), trivial⟩ (by kernel_rfl)
end Go.Proofs.Ytddnfcgbfpbagaa.Ab
