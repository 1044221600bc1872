/- Own: rows of rows, and whether they are few (no statement is proved here). -/
import Derived.Test.YtenjcieaoedfaaaX0
import Derived.Test.YtenjcieaoedfaaaW0
import Derived.KernelRfl
namespace Go.Proofs.Ytenjcieaoedfaaa.Ab
open Go.Proofs
set_option linter.unusedSimpArgs false
set_option linter.unusedVariables false
-- AGLIM=12
theorem fn4 : Try.prog.funcs[4]? = some Try.f4 := by kernel_rfl
def fewV (rs : List (List Int)) : Bool := rs.all (fun r => decide (r.length ≤ 100)) && decide (rs.length ≤ 20)
theorem few_ok (rs : List (List Int)) (hl : rs.length ≤ 9223372036854775807) : CallOK Try.prog (fun _ => none) 4 [.sv 0 0 rs.length] [(0, .rows (cellsR rs))] { val := .ex (.bool (fewV rs)) } := by
  have hlen := len_cellsR rs
  have hget := get_cellsR rs
  generalize cellsR rs = L at *
  refine CallOK.from0 hmix Try.f4 1 fn4 (by kernel_rfl) (by kernel_rfl) (fun w ρ h1 h2 => ?_)
  refine AG.rk 6 [0, 3] [0] 1 (todo' := [.code (sub (codeOf Try.f4) [1, 0, 1, 0]), .inBlock 0, .code (sub (codeOf Try.f4) [1, 1])]) (st' := ⟨mkT 19 [(0, .sv 0 0 (List.length rs)), (3, .ex (.int .i64 0))], [(0, .rows L)], 1⟩) (by kernel_rfl) (by kernel_rfl) ?_
  refine AG.rk 1 [0, 3] [0] 1 (todo' := [.code (sub (codeOf Try.f4) [1, 0, 1, 0, 0]), .inLoop (sub (codeOf Try.f4) [1, 0, 1, 0, 0]), .inBlock 0, .code (sub (codeOf Try.f4) [1, 1])]) (st' := ⟨mkT 19 [(0, .sv 0 0 (List.length rs)), (3, .ex (.int .i64 0))], [(0, .rows L)], 1⟩) (by kernel_rfl) (by kernel_rfl) ?_
  refine AG.indE (α := {i : Nat // i ≤ rs.length ∧ ∀ q, q < i → (rs.getD q []).length ≤ 100}) (fun i => rs.length - i.1)
    (fun i => ⟨mkT 19 [(0, .sv 0 0 rs.length), (3, .ex (.int .i64 (i.1 : Int)))], [(0, .rows L)], 1⟩) ⟨0, Nat.zero_le _, fun q hq => absurd hq (Nat.not_lt_zero _)⟩ (by kernel_rfl) ?_
  rintro ⟨i, hi, hq⟩ ih
  simp only at hi hq ih ⊢
  by_cases hlt : i < rs.length
  · have g1 : decide ((i : Int) < (rs.length : Int)) = true := decide_eq_true (by omega)
    have hli : i < L.length := by rw [hlen]; exact hlt
    have e0 : L.getD (0 + (i : Int).toNat * 1) [] = (rs.getD i []).map (Value.int .u8) := by rw [Nat.zero_add, Nat.mul_one, Int.toNat_natCast]; exact hget i hlt
    have e1 : (L.getD (0 + (i : Int).toNat * 1) []).length = (rs.getD i []).length := by rw [e0, List.length_map]
    by_cases h100 : (rs.getD i []).length ≤ 100
    · have g2 : decide (((rs.getD i []).length : Int) > 100) = false := decide_eq_false (by omega)
      have w1 : IntKind.i64.wrap ((i : Int) + 1) = ((i + 1 : Nat) : Int) := by rw [wrap64_id _ (by omega) (by omega)]; omega
      refine AG.rs 14 [([], [(3, { val := .ex (.bool true) })]), ([2], [(3, { val := .sv 29 0 (List.length (List.getD rs i [])) }), (5, { val := .ex (.bool false) })]), ([], [(1, { val := .ex (.int .i64 (↑(i + 1) : Int)) })])] [0, 3] [0] 1 (todo' := [.code (sub (codeOf Try.f4) [1, 0, 1, 0, 0]), .inLoop (sub (codeOf Try.f4) [1, 0, 1, 0, 0]), .inBlock 0, .code (sub (codeOf Try.f4) [1, 1])]) (st' := ⟨mkT 19 [(0, .sv 0 0 (List.length rs)), (3, .ex (.int .i64 (↑(i + 1) : Int)))], [(0, .rows L)], 1⟩) (obs := [Ob.eq (.ex (.bool (decide ((↑i : Int) < (↑(List.length rs) : Int))))) (.ex (.bool true)), Ob.ix (↑i : Int) (List.length rs), Ob.eq (.sv 29 0 (List.length (List.getD L (0 + Int.toNat (↑i : Int) * 1) []))) (.sv 29 0 (List.length (List.getD rs i []))), Ob.le (0 + Int.toNat (↑i : Int) * 1 + 1) (List.length L), Ob.eq (.ex (.bool (decide ((↑(List.length (List.getD rs i [])) : Int) > 100)))) (.ex (.bool false)), Ob.eq (.ex (.int .i64 (IntKind.wrap .i64 ((↑i : Int) + 1)))) (.ex (.int .i64 (↑(i + 1) : Int)))]) (by kernel_rfl) (by kernel_rfl) ⟨(by simp only [Ob.holds, g1]), (by (simp only [Ob.holds]; omega)), (by simp only [Ob.holds, e1]), (by (simp only [Ob.holds]; omega)), (by simp only [Ob.holds, g2]), (by simp only [Ob.holds, w1]), trivial⟩ ?_
      exact ih ⟨i + 1, hlt, fun q hq' => by
        rcases Nat.lt_or_ge q i with h | h
        · exact hq q h
        · rw [show q = i by omega]; exact h100⟩ (by simp only; omega)
    · have g2 : decide (((rs.getD i []).length : Int) > 100) = true := decide_eq_true (by omega)
      have hf : fewV rs = false := by
        unfold fewV
        rw [Bool.and_eq_false_iff]
        refine .inl (List.all_eq_false.2 ⟨rs.getD i [], ?_, by simpa using h100⟩)
        rw [List.getD_eq_getElem?_getD, List.getElem?_eq_getElem hlt]; exact List.getElem_mem _
      rw [hf]
      refine AG.rs 12 [([], [(3, { val := .ex (.bool true) })]), ([2], [(3, { val := .sv 29 0 (List.length (List.getD rs i [])) }), (5, { val := .ex (.bool true) })]), ([], [])] [2] [0] 1 (todo' := [.code (sub (codeOf Try.f4) [1, 0, 1, 0, 0, 1, 0, 0, 1, 0, 1]), .inBlock 1, .code (sub (codeOf Try.f4) [1, 0, 1, 0, 0, 1, 1]), .inLoop (sub (codeOf Try.f4) [1, 0, 1, 0, 0]), .inBlock 0, .code (sub (codeOf Try.f4) [1, 1])]) (st' := ⟨mkT 19 [(2, .ex (.bool false))], [(0, .rows L)], 1⟩) (obs := [Ob.eq (.ex (.bool (decide ((↑i : Int) < (↑(List.length rs) : Int))))) (.ex (.bool true)), Ob.ix (↑i : Int) (List.length rs), Ob.eq (.sv 29 0 (List.length (List.getD L (0 + Int.toNat (↑i : Int) * 1) []))) (.sv 29 0 (List.length (List.getD rs i []))), Ob.le (0 + Int.toNat (↑i : Int) * 1 + 1) (List.length L), Ob.eq (.ex (.bool (decide ((↑(List.length (List.getD rs i [])) : Int) > 100)))) (.ex (.bool true))]) (by kernel_rfl) (by kernel_rfl) ⟨(by simp only [Ob.holds, g1]), (by (simp only [Ob.holds]; omega)), (by simp only [Ob.holds, e1]), (by (simp only [Ob.holds]; omega)), (by simp only [Ob.holds, g2]), trivial⟩ ?_
      refine AG.fin ([.ex (.bool false)]) Go.Proofs.Try.f4 fn4 (.inr ⟨_, rfl⟩) (obs := []) (by kernel_rfl) trivial (by kernel_rfl) trivial (by kernel_rfl)
  · have g1 : decide ((i : Int) < (rs.length : Int)) = false := decide_eq_false (by omega)
    have hall : rs.all (fun r => decide (r.length ≤ 100)) = true := List.all_eq_true.2 fun r hr => by
      obtain ⟨q, hq1, rfl⟩ := List.mem_iff_getElem.1 hr
      have := hq q (by omega)
      rw [List.getD_eq_getElem?_getD, List.getElem?_eq_getElem hq1] at this
      simpa using this
    have hf : fewV rs = decide ((rs.length : Int) ≤ 20) := by
      unfold fewV
      rw [hall, Bool.true_and]
      rw [decide_eq_decide]; omega
    rw [hf]
    refine AG.rs 7 [([], [(3, { val := .ex (.bool false) })]), ([], [])] [2] [0] 1 (todo' := [.code (sub (codeOf Try.f4) [1, 0, 1, 0, 0, 1, 0, 0, 1, 0, 1])]) (st' := ⟨mkT 19 [(2, .ex (.bool (decide ((↑(List.length rs) : Int) ≤ 20))))], [(0, .rows L)], 1⟩) (obs := [Ob.eq (.ex (.bool (decide ((↑i : Int) < (↑(List.length rs) : Int))))) (.ex (.bool false))]) (by kernel_rfl) (by kernel_rfl) ⟨(by simp only [Ob.holds, g1]), trivial⟩ ?_
    refine AG.fin ([.ex (.bool (decide ((↑(List.length rs) : Int) ≤ 20)))]) Go.Proofs.Try.f4 fn4 (.inr ⟨_, rfl⟩) (obs := []) (by kernel_rfl) trivial (by kernel_rfl) trivial (by kernel_rfl)
end Go.Proofs.Ytenjcieaoedfaaa.Ab
