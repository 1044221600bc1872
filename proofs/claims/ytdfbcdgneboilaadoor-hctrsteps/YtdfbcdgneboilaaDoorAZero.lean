/- Own: a block of noughts, enciphered by a key of noughts (no statement is proved here). -/
import Derived.Test.YtdfbcdgneboilaaDoorOA3
namespace Go.Proofs.YtdfbcdgneboilaaDoor
open Go.ChangeShapes Go.WideShapes Go.ChangeAt Go.RowKit
set_option maxRecDepth 20000

def zK : List Nat := [0, 0, 0, 0, 0, 0, 0, 0, 0, 0, 0, 0, 0, 0, 0, 0, 98, 99, 99, 99, 98, 99, 99, 99, 98, 99, 99, 99, 98, 99, 99, 99, 155, 152, 152, 201, 249, 251, 251, 170, 155, 152, 152, 201, 249, 251, 251, 170, 144, 151, 52, 80, 105, 108, 207, 250, 242, 244, 87, 51, 11, 15, 172, 153, 238, 6, 218, 123, 135, 106, 21, 129, 117, 158, 66, 178, 126, 145, 238, 43, 127, 46, 43, 136, 248, 68, 62, 9, 141, 218, 124, 187, 243, 75, 146, 144, 236, 97, 75, 133, 20, 37, 117, 140, 153, 255, 9, 55, 106, 180, 155, 167, 33, 117, 23, 135, 53, 80, 98, 11, 172, 175, 107, 60, 198, 27, 240, 155, 14, 249, 3, 51, 59, 169, 97, 56, 151, 6, 10, 4, 81, 29, 250, 159, 177, 212, 216, 226, 138, 125, 185, 218, 29, 123, 179, 222, 76, 102, 73, 65, 180, 239, 91, 203, 62, 146, 226, 17, 35, 233, 81, 207, 111, 143, 24, 142]
def zS : List (List Nat) := [[0, 0, 0, 0, 0, 0, 0, 0, 0, 0, 0, 0, 0, 0, 0, 0],
  [1, 0, 0, 0, 1, 0, 0, 0, 1, 0, 0, 0, 1, 0, 0, 0],
  [198, 228, 228, 139, 164, 135, 135, 232, 198, 228, 228, 139, 164, 135, 135, 232],
  [40, 45, 243, 196, 106, 243, 134, 37, 74, 78, 144, 167, 8, 144, 229, 70],
  [171, 210, 205, 254, 55, 90, 181, 73, 80, 160, 175, 192, 117, 154, 106, 95],
  [212, 111, 79, 108, 85, 184, 150, 51, 126, 5, 187, 61, 121, 121, 222, 35],
  [4, 242, 202, 151, 7, 120, 40, 69, 226, 47, 1, 150, 73, 197, 215, 16],
  [183, 170, 228, 197, 29, 37, 45, 79, 108, 146, 15, 129, 148, 229, 129, 80],
  [35, 231, 140, 60, 19, 33, 99, 219, 170, 192, 198, 87, 46, 3, 203, 149],
  [127, 254, 14, 149, 81, 165, 102, 53, 14, 52, 124, 71, 41, 41, 236, 203]]
def zAt (i j : Nat) : Nat := (zS.getD i []).getD j 0
set_option maxRecDepth 100000 in
theorem zK_step : ∀ k, k < 40 → ∀ r, r < 4 → zK.getD (4 * (4 + k) + r) 0 = zK.getD (4 * k + r) 0 ^^^ chg (fun x => zK.getD (4 * (4 + k) - 4 + x) 0) (4 + k) 4 r := by decide +kernel
theorem zK_start : ∀ j, j < 16 → zK.getD j 0 = 0 := by decide +kernel
theorem chg_congr {x y : Nat → Nat} (i n r : Nat) (hr : r < 4) (h : ∀ r, r < 4 → x r = y r) : chg x i n r = chg y i n r := by
  unfold chg
  split
  · match r, hr with
    | 0, _ => show sbox (x 1) ^^^ _ = sbox (y 1) ^^^ _; rw [h 1 (by decide)]
    | 1, _ => show sbox (x 2) = sbox (y 2); rw [h 2 (by decide)]
    | 2, _ => show sbox (x 3) = sbox (y 3); rw [h 3 (by decide)]
    | 3, _ => show sbox (x 0) = sbox (y 0); rw [h 0 (by decide)]
  · split
    · show sbox (x r) = sbox (y r); rw [h r hr]
    · exact h r hr
theorem zK_all : ∀ k, k ≤ 40 → ∀ j, j < 4 * (4 + k) → eb (fun _ => 0) 4 k j = zK.getD j 0
  | 0, _, j, hj => by
    show (if j < 4 * 4 then 0 else 0) = _
    rw [zK_start j (by omega)]; split <;> rfl
  | k + 1, hk, j, hj => by
    have ih := zK_all k (by omega)
    show (if 4 * (4 + k) ≤ j ∧ j < 4 * (4 + k) + 4 then eb (fun _ => 0) 4 k (j - 4 * 4) ^^^ chg (fun r => eb (fun _ => 0) 4 k (4 * (4 + k) - 4 + r)) (4 + k) 4 (j - 4 * (4 + k)) else eb (fun _ => 0) 4 k j) = _
    by_cases h : 4 * (4 + k) ≤ j ∧ j < 4 * (4 + k) + 4
    · obtain ⟨r, hr⟩ : ∃ r, j = 4 * (4 + k) + r := ⟨j - 4 * (4 + k), by omega⟩
      have hr4 : r < 4 := by omega
      rw [if_pos h, ih _ (by omega), chg_congr (4 + k) 4 (j - 4 * (4 + k)) (by omega) fun x hx => ih (4 * (4 + k) - 4 + x) (by omega), show j - 4 * (4 + k) = r by omega, show j - 4 * 4 = 4 * k + r by omega, hr]
      exact (zK_step k (by omega) r hr4).symm
    · rw [if_neg h]; exact ih j (by omega)
theorem zS_step : ∀ i, i < 9 → ∀ j, j < 16 → rnd (zAt i) (fun x => zK.getD (16 * (i + 1) + x) 0) j = zAt (i + 1) j := by decide +kernel
theorem zS_start : ∀ j, j < 16 → zAt 0 j = zK.getD j 0 := by decide +kernel
theorem zS_all : ∀ m, m ≤ 9 → ∀ j, j < 16 → rnds (fun i => 0 ^^^ eb (fun _ => 0) 4 40 i) (fun i j => eb (fun _ => 0) 4 40 (16 * (i + 1) + j)) m j = zAt m j
  | 0, _, j, hj => by
    show 0 ^^^ eb (fun _ => 0) 4 40 j = _
    rw [Nat.zero_xor, zK_all 40 (Nat.le_refl _) j (by omega), zS_start j hj]
  | m + 1, hm, j, hj => by
    have ih := zS_all m (by omega)
    show rnd (rnds _ _ m) (fun j => eb (fun _ => 0) 4 40 (16 * (m + 1) + j)) j = _
    rw [rnd_congr ih (fun x hx => zK_all 40 (Nat.le_refl _) (16 * (m + 1) + x) (by omega)) j hj]
    exact zS_step m (by omega) j hj
theorem zEnd : lst (zAt 9) (fun x => zK.getD (16 * 10 + x) 0) 0 = 0x66 ∧ lst (zAt 9) (fun x => zK.getD (16 * 10 + x) 0) 1 = 0xe9 ∧ lst (zAt 9) (fun x => zK.getD (16 * 10 + x) 0) 15 = 0x2e := by decide +kernel
theorem zero_enc (j : Nat) (hj : j < 16) : encB (eb (fun _ => 0) 4 40) 10 (fun _ => 0) j = lst (zAt 9) (fun x => zK.getD (16 * 10 + x) 0) j :=
  lst_congr (zS_all 9 (Nat.le_refl _)) (fun x hx => zK_all 40 (Nat.le_refl _) (16 * 10 + x) (by omega)) j hj
end Go.Proofs.YtdfbcdgneboilaaDoor
