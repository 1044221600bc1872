/- Own: numbers in form (no statement is proved here). -/
import Derived.Test.YtenjcieaoedfaaaP2
import Derived.KernelRfl
namespace Go.Proofs.Ytenjcieaoedfaaa.Ab
open Go.Proofs
set_option linter.unusedSimpArgs false
/-- The parts of the Num of a value. -/
def num (v : Int) : Nat → Int := prts (v % PP)
theorem num_low (v : Int) (i : Nat) : 0 ≤ num v i ∧ num v i < 67108864 := prts_low _ i
theorem num_R5 (v : Int) : R5 (num v) := prts_R5 _
theorem V_num (v : Int) : V (num v) = v % PP := V_mod v
theorem plus_n (n m : Nat → Int) (hn : R5 n) (hm : R5 m) : CallOK Try.prog (fun _ => none) 21 [.ex (.agg (ar32 5 n).toArray), .ex (.agg (ar32 5 m).toArray)] [] { val := .ex (.agg (ar32 5 (num (V n + V m))).toArray) } := plus_ok n m hn hm
theorem times_n (n m : Nat → Int) (hn : R5 n) (hm : R5 m) : CallOK Try.prog (fun _ => none) 23 [.ex (.agg (ar32 5 n).toArray), .ex (.agg (ar32 5 m).toArray)] [] { val := .ex (.agg (ar32 5 (num (V n * V m))).toArray) } := times_ok n m hn hm
theorem form_n (n : Nat → Int) (hn : R5 n) : CallOK Try.prog (fun _ => none) 15 [.ex (.agg (ar32 5 n).toArray)] [] { val := .ex (.agg (ar32 5 (num (V n))).toArray) } := form_ok n hn
theorem R5_one (a : Int) (h : 0 ≤ a ∧ a < 4294967296) (b : Int) (hb : 0 ≤ b ∧ b < 4294967296) (c : Int) (hc : 0 ≤ c ∧ c < 4294967296) : R5 (arf [a, b, 0, 0, c]) := fun i hi => by
  match i, hi with
  | 0, _ => exact h
  | 1, _ => exact hb
  | 2, _ => show (0 : Int) ≤ 0 ∧ (0 : Int) < 4294967296; omega
  | 3, _ => show (0 : Int) ≤ 0 ∧ (0 : Int) < 4294967296; omega
  | 4, _ => exact hc
theorem num_eq {x y : Int} (h : x % PP = y % PP) : eqL [num (x) 0, num (x) 1, num (x) 2, num (x) 3, num (x) 4] [num (y) 0, num (y) 1, num (y) 2, num (y) 3, num (y) 4] = true := by unfold num; rw [h]; exact eqL_iff.2 rfl
theorem num_inj {x y : Int} (h : eqL [num (x) 0, num (x) 1, num (x) 2, num (x) 3, num (x) 4] [num (y) 0, num (y) 1, num (y) 2, num (y) 3, num (y) 4] = true) : x % PP = y % PP := by
  have h := eqL_iff.1 h
  simp only [List.cons.injEq, and_true] at h
  obtain ⟨h0, h1, h2, h3, h4⟩ := h
  rw [← V_num x, ← V_num y]
  unfold V; rw [h0, h1, h2, h3, h4]
theorem num_iff (x y : Int) : eqL [num (x) 0, num (x) 1, num (x) 2, num (x) 3, num (x) 4] [num (y) 0, num (y) 1, num (y) 2, num (y) 3, num (y) 4] = decide (x % PP = y % PP) := by
  rw [Bool.eq_iff_iff, decide_eq_true_iff]
  exact ⟨num_inj, num_eq⟩
theorem m_add (x y : Int) : (x % PP + y) % PP = (x + y) % PP := by rw [Int.emod_add_emod]
theorem m_add' (x y : Int) : (x + y % PP) % PP = (x + y) % PP := by rw [Int.add_emod_emod]
theorem m_mul (x y : Int) : (x % PP * y) % PP = (x * y) % PP := by rw [Int.mul_emod, Int.emod_emod_of_dvd _ (Int.dvd_refl _), ← Int.mul_emod]
theorem m_mul' (x y : Int) : (x * (y % PP)) % PP = (x * y) % PP := by rw [Int.mul_emod, Int.emod_emod_of_dvd _ (Int.dvd_refl _), ← Int.mul_emod]
end Go.Proofs.Ytenjcieaoedfaaa.Ab
