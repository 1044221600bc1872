/- Own: the reference's product is the product: plain mathematics (no Go here, no statement is proved here). -/
import Derived.Test.YtlkihbmkekadeaaDoorOG1
namespace Go.Proofs.YtlkihbmkekadeaaDoor

/-- A product of polynomials, so many bits of the second one. -/
def c1 (a b : Nat) : Nat → Nat
  | 0 => 0
  | k + 1 => if b.testBit k then c1 a b k ^^^ (a <<< k) else c1 a b k
/-- Its rest, from the bit 14 down, so many steps. -/
def rd (n : Nat) : Nat → Nat
  | 0 => n
  | j + 1 => if (rd n j).testBit (14 - j) then rd n j ^^^ (283 <<< (6 - j)) else rd n j
def rt (a b : Nat) : Nat := rd (c1 a b 8) 7 % 256

theorem swap4 (x y z u : Nat) : (x ^^^ y) ^^^ (z ^^^ u) = (x ^^^ z) ^^^ (y ^^^ u) := by
  rw [Nat.xor_assoc, Nat.xor_assoc, ← Nat.xor_assoc y z u, ← Nat.xor_assoc z y u, Nat.xor_comm y z]
theorem c1_left (a a' b : Nat) : ∀ k, c1 (a ^^^ a') b k = c1 a b k ^^^ c1 a' b k
  | 0 => by simp [c1]
  | k + 1 => by
    rw [c1, c1, c1, c1_left a a' b k]
    split
    · rw [Nat.shiftLeft_xor_distrib, swap4]
    · rfl
theorem c1_right (a b b' : Nat) : ∀ k, c1 a (b ^^^ b') k = c1 a b k ^^^ c1 a b' k
  | 0 => by simp [c1]
  | k + 1 => by
    rw [c1, c1, c1, c1_right a b b' k, Nat.testBit_xor]
    cases b.testBit k <;> cases b'.testBit k
    · simp
    · simp [Nat.xor_assoc]
    · simp only [Bool.true_xor, Bool.not_false, if_true, Bool.false_eq_true, if_false]
      rw [Nat.xor_assoc, Nat.xor_assoc, Nat.xor_comm (c1 a b' k)]
    · simp only [Bool.true_xor, Bool.not_true, Bool.false_eq_true, if_false, if_true]
      rw [swap4, Nat.xor_self, Nat.xor_zero]
theorem rd_xor (n m : Nat) : ∀ j, rd (n ^^^ m) j = rd n j ^^^ rd m j
  | 0 => rfl
  | j + 1 => by
    rw [rd, rd, rd, rd_xor n m j, Nat.testBit_xor]
    cases (rd n j).testBit (14 - j) <;> cases (rd m j).testBit (14 - j)
    · simp
    · simp [Nat.xor_assoc]
    · simp only [Bool.true_xor, Bool.not_false, if_true, Bool.false_eq_true, if_false]
      rw [Nat.xor_assoc, Nat.xor_assoc, Nat.xor_comm (rd m j)]
    · simp only [Bool.true_xor, Bool.not_true, Bool.false_eq_true, if_false, if_true]
      rw [swap4, Nat.xor_self, Nat.xor_zero]
theorem mod_xor (n m : Nat) : (n ^^^ m) % 256 = (n % 256) ^^^ (m % 256) := Nat.xor_mod_two_pow (n := 8)
theorem rt_left (a a' b : Nat) : rt (a ^^^ a') b = rt a b ^^^ rt a' b := by unfold rt; rw [c1_left, rd_xor, mod_xor]
theorem rt_right (a b b' : Nat) : rt a (b ^^^ b') = rt a b ^^^ rt a b' := by unfold rt; rw [c1_right, rd_xor, mod_xor]
theorem rt_basis : ∀ i, i < 8 → ∀ j, j < 8 → rt (2 ^ i) (2 ^ j) = times (2 ^ i) (2 ^ j) := by decide +kernel
theorem rt_zero : ∀ i, i < 8 → rt (2 ^ i) 0 = 0 := by decide +kernel
theorem zero_rt (b : Nat) : rt 0 b = 0 := by
  have h : ∀ k, c1 0 b k = 0 := by
    intro k
    induction k with
    | zero => rfl
    | succ k ih => rw [c1, ih]; simp
  unfold rt; rw [h 8]; decide
theorem rt_eq (a b : Nat) (ha : a < 256) (hb : b < 256) : rt a b = times a b := by
  refine span (P := fun a => ∀ b, b < 256 → rt a b = times a b) ?_ ?_ ?_ a ha b hb
  · intro b _; rw [zero_rt, zero_times]
  · intro i hi b hb
    refine span (P := fun b => rt (2 ^ i) b = times (2 ^ i) b) ?_ ?_ ?_ b hb
    · rw [rt_zero i hi, times_zero]
    · intro j hj; exact rt_basis i hi j hj
    · intro x y _ _ h1 h2; rw [rt_right, times_right, h1, h2]
  · intro x y hx hy h1 h2 b hb; rw [rt_left, times_left _ _ _ hx hy, h1 b hb, h2 b hb]
theorem c1_lt (a b : Nat) (ha : a < 256) : ∀ k, k ≤ 8 → c1 a b k < 32768
  | 0, _ => by rw [c1]; decide
  | k + 1, hk => by
    rw [c1]
    have h1 := c1_lt a b ha k (by omega)
    split
    · refine Nat.xor_lt_two_pow (n := 15) h1 ?_
      rw [Nat.shiftLeft_eq]
      have : 2 ^ k ≤ 2 ^ 7 := Nat.pow_le_pow_right (by decide) (by omega)
      have : a * 2 ^ k ≤ 255 * 2 ^ 7 := Nat.mul_le_mul (by omega) this
      omega
    · exact h1
theorem rd_lt (n : Nat) (hn : n < 32768) : ∀ j, j ≤ 7 → rd n j < 32768
  | 0, _ => hn
  | j + 1, hj => by
    rw [rd]
    have h1 := rd_lt n hn j (by omega)
    split
    · refine Nat.xor_lt_two_pow (n := 15) h1 ?_
      rw [Nat.shiftLeft_eq]
      have : 2 ^ (6 - j) ≤ 2 ^ 6 := Nat.pow_le_pow_right (by decide) (by omega)
      have : 283 * 2 ^ (6 - j) ≤ 283 * 2 ^ 6 := Nat.mul_le_mul (by omega) this
      omega
    · exact h1
end Go.Proofs.YtlkihbmkekadeaaDoor
