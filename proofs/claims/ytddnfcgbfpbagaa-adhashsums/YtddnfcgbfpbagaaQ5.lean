/- Own: the law PolyClamped followed (no statement is proved here). -/
import Derived.Test.YtddnfcgbfpbagaaQ3
import Derived.KernelRfl
namespace Go.Proofs.Ytddnfcgbfpbagaa.Ab
open Go.Proofs
set_option linter.unusedSimpArgs false
set_option linter.unusedVariables false
theorem and8_twice (x m : Int) : and8 (and8 x m) m = and8 x m := by
  unfold and8
  have e : ∀ v : BitVec 8, BitVec.ofInt 8 (IntKind.u8.wrap (v.toNat : Int)) = v := fun v => by
    have := v.isLt
    rw [wrap_u8, show ((v.toNat : Int) % 256) = ((v.toNat : Nat) : Int) by omega, BitVec.ofInt_natCast]
    simp
  rw [e, BitVec.and_assoc, BitVec.and_self]
theorem clm_twice (b : Nat → Int) (j : Nat) (hj : j < 16) : clm (clm b) j = clm b j := by
  rcases (by omega : j = 0 ∨ j = 1 ∨ j = 2 ∨ j = 3 ∨ j = 4 ∨ j = 5 ∨ j = 6 ∨ j = 7 ∨ j = 8 ∨ j = 9 ∨ j = 10 ∨ j = 11 ∨ j = 12 ∨ j = 13 ∨ j = 14 ∨ j = 15) with rfl | rfl | rfl | rfl | rfl | rfl | rfl | rfl | rfl | rfl | rfl | rfl | rfl | rfl | rfl | rfl <;> first | rfl | exact and8_twice _ _
theorem le16_congr {a b : Nat → Int} (h : ∀ j, j < 16 → a j = b j) : le16 a = le16 b := by
  rw [← leN16, ← leN16]; exact leN_congr h
theorem kn_twice (b : Nat → Int) : kn (clm b) = kn b := le16_congr (clm_twice b)
theorem hv_zero (l : List Int) (q : Nat) : hv 0 l q = 0 := by cases q with
  | zero => rfl
  | succ q => unfold hv; rw [Int.mul_zero]
theorem lowv_zero : lowv 0 = fun _ => 0 := by
  funext j
  unfold lowv low wbytes
  rw [show (0 : Int) % PP = 0 by decide]
  split <;> (rw [putw_eq]; simp)
end Go.Proofs.Ytddnfcgbfpbagaa.Ab
