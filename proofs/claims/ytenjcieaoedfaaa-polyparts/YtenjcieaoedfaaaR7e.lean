/- Own: the reference's values of parts, and parts of a value (no statement is proved here). -/
import Derived.Test.YtenjcieaoedfaaaR7d
import Derived.KernelRfl
namespace Go.Proofs.Ytenjcieaoedfaaa.Ab
open Go.Proofs
set_option linter.unusedSimpArgs false
def VN : Nat → (Nat → Int) → Int
  | 0, _ => 0
  | n + 1, a => VN n a + 67108864 ^ n * a n
theorem pow_8 (t : Nat) : (256 : Int) ^ (t / 8) * 2 ^ (t % 8) = 2 ^ t := by
  rw [show (256 : Int) = 2 ^ 8 from rfl, ← Int.pow_mul, ← Int.pow_add, Nat.div_add_mod]
theorem shl_small (t m : Nat) (hm : m ≤ 31) (ht : t < 1000) (h8 : (m = 8 ∨ m = 26)) : IntKind.i64.wrap (1 * 2 ^ min (IntKind.u64.wrap ((t : Int).tmod m)).toNat 64) = 2 ^ (t % m) ∧ (0 : Int) < 2 ^ (t % m) ∧ (2 : Int) ^ (t % m) ≤ 2 ^ (m - 1) := by
  have a2 : min (IntKind.u64.wrap ((t : Int).tmod m)).toNat 64 = t % m := by
    rw [Int.tmod_eq_emod_of_nonneg (by omega), wrap_u64]
    rcases h8 with rfl | rfl <;> omega
  have hp : (0 : Int) < 2 ^ (t % m) := Int.pow_pos (by decide)
  have hle : (2 : Int) ^ (t % m) ≤ 2 ^ (m - 1) := by
    have : (2 : Int) ^ (m - 1) = 2 ^ (t % m) * 2 ^ (m - 1 - t % m) := by
      rw [← Int.pow_add]; congr 1; rcases h8 with rfl | rfl <;> omega
    rw [this]
    have h1 : (1 : Int) ≤ 2 ^ (m - 1 - t % m) := Int.pow_pos (n := 2) (by decide)
    have h2 : 2 ^ (t % m) * 1 ≤ 2 ^ (t % m) * (2 : Int) ^ (m - 1 - t % m) := Int.mul_le_mul_of_nonneg_left h1 (by omega)
    omega
  refine ⟨?_, hp, hle⟩
  rw [a2, Int.one_mul, wrap64_id _ (by omega) ?_]
  rcases h8 with rfl | rfl
  · rw [show (2 : Int) ^ (8 - 1) = 128 from rfl] at hle; omega
  · rw [show (2 : Int) ^ (26 - 1) = 33554432 from rfl] at hle; omega
def pt (v : Int) (t j : Nat) : Int := v % 2 ^ t / 2 ^ (26 * j) % 67108864
theorem pt_step (v : Int) (t : Nat) (j : Nat) : pt v (t + 1) j = if j = t / 26 then pt v t j + 2 ^ (t % 26) * (v / 2 ^ t % 2) else pt v t j := by
  have hp := Int.pow_pos (n := 2) (m := t) (by decide)
  have hm0 := Int.emod_nonneg v (show (2 : Int) ^ t ≠ 0 by omega)
  have hm1 := Int.emod_lt_of_pos v hp
  have hnew : v % 2 ^ (t + 1) = v % 2 ^ t + 2 ^ t * (v / 2 ^ t % 2) := by
    rw [Int.pow_succ]
    generalize (2 : Int) ^ t = p at *
    have h1 := Int.mul_ediv_add_emod v p
    have h3 : v / (p * 2) = v / p / 2 := by rw [Int.ediv_ediv_of_nonneg (by omega)]
    have h4 := Int.mul_ediv_add_emod v (p * 2)
    rw [h3] at h4
    have h2 := Int.mul_ediv_add_emod (v / p) 2
    have h5 : p * 2 * (v / p / 2) = p * (2 * (v / p / 2)) := by rw [Int.mul_assoc]
    have h6 : p * (v / p) = p * (2 * (v / p / 2)) + p * (v / p % 2) := by rw [← Int.mul_add, h2]
    omega
  have hb : v / 2 ^ t % 2 = 0 ∨ v / 2 ^ t % 2 = 1 := by omega
  generalize v / 2 ^ t % 2 = b at *
  unfold pt
  rw [hnew]
  generalize v % 2 ^ t = m at *
  have hq := Int.pow_pos (n := 2) (m := 26 * j) (by decide)
  by_cases h1 : j = t / 26
  · rw [if_pos h1]
    have e : (2 : Int) ^ t = 2 ^ (26 * j) * 2 ^ (t % 26) := by rw [← Int.pow_add, h1, Nat.div_add_mod]
    have hr : (2 : Int) ^ (t % 26) ≤ 33554432 := by
      have h : t % 26 < 26 := by omega
      have e2 : (33554432 : Int) = 2 ^ (t % 26) * 2 ^ (25 - t % 26) := by rw [← Int.pow_add, show t % 26 + (25 - t % 26) = 25 by omega]; rfl
      have h1 : (1 : Int) ≤ 2 ^ (25 - t % 26) := Int.pow_pos (n := 2) (by decide)
      have h0 : (0 : Int) ≤ 2 ^ (t % 26) := Int.le_of_lt (Int.pow_pos (by decide))
      have := Int.mul_le_mul_of_nonneg_left h1 h0
      omega
    rw [e, Int.mul_assoc, Int.add_mul_ediv_left _ _ (by omega)]
    have hmq : m / 2 ^ (26 * j) < 2 ^ (t % 26) := by
      rw [e] at hm1
      exact Int.ediv_lt_of_lt_mul hq (by rw [Int.mul_comm]; exact hm1)
    have hm2 : 0 ≤ m / 2 ^ (26 * j) := Int.ediv_nonneg hm0 (by omega)
    generalize m / 2 ^ (26 * j) = y at *
    generalize (2 : Int) ^ (t % 26) = z at *
    rcases hb with rfl | rfl <;> omega
  · rw [if_neg h1]
    by_cases h2 : t / 26 < j
    · obtain ⟨d, hd⟩ : ∃ d, 26 * j = t + 1 + d := ⟨26 * j - (t + 1), by omega⟩
      have e : (2 : Int) ^ (26 * j) = 2 ^ t * (2 * 2 ^ d) := by rw [hd, Int.pow_add, Int.pow_succ, Int.mul_assoc]
      have h3 : (1 : Int) ≤ 2 ^ d := Int.pow_pos (n := 2) (by decide)
      have h4 : 2 ^ t * 2 ≤ 2 ^ t * (2 * (2 : Int) ^ d) := Int.mul_le_mul_of_nonneg_left (by omega) (by omega)
      rw [e]
      have h5 : m + 2 ^ t * b < 2 ^ t * (2 * 2 ^ d) := by rcases hb with rfl | rfl <;> omega
      have h6 : 0 ≤ m + 2 ^ t * b := by rcases hb with rfl | rfl <;> omega
      rw [Int.ediv_eq_zero_of_lt h6 h5, Int.ediv_eq_zero_of_lt hm0 (by omega)]
    · obtain ⟨d, hd⟩ : ∃ d, t = 26 * j + (26 + d) := ⟨t - 26 * j - 26, by omega⟩
      have e : (2 : Int) ^ t * b = 2 ^ (26 * j) * (67108864 * (2 ^ d * b)) := by
        rw [hd, Int.pow_add, Int.pow_add, Int.mul_assoc, Int.mul_assoc]; rfl
      rw [e, Int.add_mul_ediv_left _ _ (by omega)]
      omega
theorem dig_bit (v : Int) (t : Nat) : dig v (t / 8) / 2 ^ (t % 8) % 2 = v / 2 ^ t % 2 := by
  rw [← pow_8 t, ← Int.ediv_ediv_of_nonneg (Int.le_of_lt (pow_pos' _))]
  unfold dig
  generalize v / 256 ^ (t / 8) = y
  have hr : t % 8 < 8 := by omega
  generalize t % 8 = r at *
  rcases (by omega : r = 0 ∨ r = 1 ∨ r = 2 ∨ r = 3 ∨ r = 4 ∨ r = 5 ∨ r = 6 ∨ r = 7) with rfl | rfl | rfl | rfl | rfl | rfl | rfl | rfl
  · show y % 256 / 1 % 2 = y / 1 % 2; omega
  · show y % 256 / 2 % 2 = y / 2 % 2; omega
  · show y % 256 / 4 % 2 = y / 4 % 2; omega
  · show y % 256 / 8 % 2 = y / 8 % 2; omega
  · show y % 256 / 16 % 2 = y / 16 % 2; omega
  · show y % 256 / 32 % 2 = y / 32 % 2; omega
  · show y % 256 / 64 % 2 = y / 64 % 2; omega
  · show y % 256 / 128 % 2 = y / 128 % 2; omega
end Go.Proofs.Ytenjcieaoedfaaa.Ab
