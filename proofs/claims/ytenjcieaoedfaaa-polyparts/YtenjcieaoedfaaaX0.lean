/- Own: the exclusive or of two rows, and rows told place by place (no statement is proved here). -/
import Derived.Test.YtenjcieaoedfaaaO1
import Derived.Test.YtenjcieaoedfaaaN0
import Derived.KernelRfl
namespace Go.Proofs.Ytenjcieaoedfaaa.Ab
open Go.Proofs
set_option linter.unusedSimpArgs false
set_option linter.unusedVariables false
def xr (xs ys : List Int) (j : Nat) : Int := xor8 (bAt xs j) (bAt ys j)
theorem rep_ar8 (n : Nat) : List.replicate n (Value.int .u8 0) = ar8 n (fun _ => 0) := by
  unfold ar8
  rw [List.map_const', List.length_range]
theorem bAt_rng (n : Nat) (f : Nat → Int) (j : Nat) (h : j < n) : bAt ((List.range n).map f) j = f j := by
  rw [bAt_in _ _ (by omega) (by simp; omega)]
  simp [h]
theorem bAt_prt (l : List Int) (d n : Nat) (hn : l.length ≤ d + n) (j : Nat) : bAt (List.take n (List.drop d l)) j = bAt l (d + j : Nat) := by
  by_cases h : d + j < l.length
  · rw [bAt_in _ _ (by omega) (by simp; omega), bAt_in _ _ (by omega) (by omega)]
    have e : ((d + j : Nat) : Int).toNat = d + j := by omega
    rw [e, Int.toNat_natCast, List.getD_eq_getElem?_getD, List.getD_eq_getElem?_getD, List.getElem?_take, if_pos (by omega), List.getElem?_drop]
  · rw [bAt_out _ _ (by simp; omega), bAt_out _ _ (by omega)]
theorem mapr8 (n : Nat) (f : Nat → Int) : ((List.range n).map f).map (Value.int .u8) = ar8 n f := by rw [List.map_map]; rfl
theorem ovr_ar8 (L a n : Nat) (f g : Nat → Int) (h : a + n ≤ L) : ovr (ar8 L f) a (ar8 n g) = ar8 L (fun j => if a ≤ j ∧ j < a + n then g (j - a) else f j) := by
  have la : (ar8 L f).length = L := length_ar8 _ _
  have ln : (ar8 n g).length = n := length_ar8 _ _
  refine eq_ar8 (by rw [length_ovr _ _ _ (by omega), la]) fun j hj => ?_
  unfold ovr
  rw [ln]
  by_cases h1 : j < a
  · rw [List.append_assoc, List.getElem?_append_left (by simp; omega), List.getElem?_take, if_pos h1, getElem_ar8 _ _ _ hj, if_neg (by omega)]
  · by_cases h2 : j < a + n
    · rw [List.append_assoc, List.getElem?_append_right (by simp; omega), List.getElem?_append_left (by simp; omega), List.length_take, la, show j - min a L = j - a by omega, getElem_ar8 _ _ _ (by omega), if_pos ⟨by omega, h2⟩]
    · rw [List.getElem?_append_right (by simp; omega), List.getElem?_drop]
      simp only [List.length_append, List.length_take, la, ln]
      rw [show a + n + (j - (min a L + n)) = j by omega, getElem_ar8 _ _ _ hj, if_neg (by omega)]
theorem ar8_bAt (bs : List Int) : ar8 bs.length (fun j => bAt bs j) = bs.map (Value.int .u8) := by
  symm
  refine eq_ar8 (by simp) fun i hi => ?_
  rw [bAt_in bs _ (by omega) (by omega)]
  simp [List.getElem?_eq_getElem hi]
def xr2 (a b : Nat → Int) (j : Nat) : Int := xor8 (a j) (b j)
theorem b8_xr2 (a b : Nat → Int) (j : Nat) : R8 (xr2 a b j) := r8_xor8 _ _
end Go.Proofs.Ytenjcieaoedfaaa.Ab
