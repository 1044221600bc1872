/- Own: it is a field: plain mathematics (no Go here, no statement is proved here). -/
import Derived.Test.YtlkihbmkekadeaaDoorLinear
namespace Go.Proofs.YtlkihbmkekadeaaDoor

theorem two_pow_xor : ∀ k, k < 8 → ∀ r, r < 2 ^ k → 2 ^ k ^^^ r = 2 ^ k + r := by decide +kernel
/-- What holds of 0, of the eight powers of 2, and of every exclusive or of two of which it holds, holds of every byte. -/
theorem span {P : Nat → Prop} (h0 : P 0) (hb : ∀ i, i < 8 → P (2 ^ i)) (hx : ∀ a b, a < 256 → b < 256 → P a → P b → P (a ^^^ b)) (a : Nat) (ha : a < 256) : P a := by
  have key : ∀ k, k ≤ 8 → ∀ a, a < 2 ^ k → P a := by
    intro k
    induction k with
    | zero => intro _ a ha; obtain rfl : a = 0 := by simpa using ha
              exact h0
    | succ k ih =>
      intro hk a ha
      by_cases h : a < 2 ^ k
      · exact ih (by omega) a h
      · have e := two_pow_xor k (by omega) (a - 2 ^ k) (by rw [Nat.pow_succ] at ha; omega)
        have e' : a = 2 ^ k ^^^ (a - 2 ^ k) := by rw [e]; omega
        have hp : 2 ^ (k + 1) ≤ 2 ^ 8 := Nat.pow_le_pow_right (by decide) hk
        rw [e']
        have hpk : 2 ^ (k + 1) = 2 ^ k * 2 := Nat.pow_succ ..
        exact hx _ _ (by omega) (by omega) (hb k (by omega)) (ih (by omega) _ (by omega))
  exact key 8 (Nat.le_refl _) a ha

theorem times_zero (a : Nat) : times a 0 = 0 := tl_zero 8 a 0
theorem tl_none : ∀ n b, tl n 0 b 0 = 0
  | 0, _ => rfl
  | n + 1, b => by
    have h : dbl 0 = 0 := by decide
    rw [tl, h]; simp [tl_none n]
theorem zero_times (b : Nat) : times 0 b = 0 := tl_none 8 b
theorem basis_lt (i : Nat) (h : i < 8) : 2 ^ i < 256 := Nat.pow_lt_pow_right (a := 2) (m := i) (n := 8) (by decide) h

theorem comm_basis : ∀ i, i < 8 → ∀ j, j < 8 → times (2 ^ i) (2 ^ j) = times (2 ^ j) (2 ^ i) := by decide +kernel
theorem times_comm (a b : Nat) (ha : a < 256) (hb : b < 256) : times a b = times b a := by
  refine span (P := fun a => ∀ b, b < 256 → times a b = times b a) ?_ ?_ ?_ a ha b hb
  · intro b _; rw [zero_times, times_zero]
  · intro i hi b hb
    refine span (P := fun b => times (2 ^ i) b = times b (2 ^ i)) ?_ ?_ ?_ b hb
    · rw [zero_times, times_zero]
    · intro j hj; exact comm_basis i hi j hj
    · intro x y hx hy h1 h2; rw [times_right, times_left _ _ _ hx hy, h1, h2]
  · intro x y hx hy h1 h2 b hb; rw [times_left _ _ _ hx hy, times_right, h1 b hb, h2 b hb]
theorem assoc_basis : ∀ i, i < 8 → ∀ j, j < 8 → ∀ k, k < 8 → times (times (2 ^ i) (2 ^ j)) (2 ^ k) = times (2 ^ i) (times (2 ^ j) (2 ^ k)) := by decide +kernel
theorem times_assoc (a b c : Nat) (ha : a < 256) (hb : b < 256) (hc : c < 256) : times (times a b) c = times a (times b c) := by
  refine span (P := fun a => ∀ b, b < 256 → ∀ c, c < 256 → times (times a b) c = times a (times b c)) ?_ ?_ ?_ a ha b hb c hc
  · intro b _ c _; rw [zero_times, zero_times, zero_times]
  · intro i hi b hb
    refine span (P := fun b => ∀ c, c < 256 → times (times (2 ^ i) b) c = times (2 ^ i) (times b c)) ?_ ?_ ?_ b hb
    · intro c _; rw [times_zero, zero_times, times_zero]
    · intro j hj c hc
      refine span (P := fun c => times (times (2 ^ i) (2 ^ j)) c = times (2 ^ i) (times (2 ^ j) c)) ?_ ?_ ?_ c hc
      · rw [times_zero, times_zero, times_zero]
      · intro k hk; exact assoc_basis i hi j hj k hk
      · intro x y _ _ h1 h2; rw [times_right, times_right, times_right, h1, h2]
    · intro x y hx hy h1 h2 c hc
      have l := basis_lt i hi
      rw [times_right, times_left _ _ _ (times_lt _ _ l) (times_lt _ _ l), times_left _ _ _ hx hy, times_right, h1 c hc, h2 c hc]
  · intro x y hx hy h1 h2 b hb c hc
    rw [times_left _ _ _ hx hy, times_left _ _ _ (times_lt _ _ hx) (times_lt _ _ hy), times_left _ _ _ hx hy, h1 b hb c hc, h2 b hb c hc]
theorem times_one : ∀ a, a < 256 → times a 1 = a := by decide +kernel
theorem one_times (a : Nat) (h : a < 256) : times 1 a = a := by rw [times_comm 1 a (by decide) h, times_one a h]

/-! Powers. -/
def pw (a : Nat) : Nat → Nat
  | 0 => 1
  | n + 1 => times (pw a n) a
theorem pw_lt (a : Nat) (ha : a < 256) : ∀ n, pw a n < 256
  | 0 => by simp [pw]
  | n + 1 => times_lt _ _ (pw_lt a ha n)
theorem pw_add (a : Nat) (ha : a < 256) (n : Nat) : ∀ m, pw a (n + m) = times (pw a n) (pw a m)
  | 0 => by rw [pw, times_one _ (pw_lt a ha n)]; rfl
  | m + 1 => by
    rw [← Nat.add_assoc, pw, pw, pw_add a ha n m, times_assoc _ _ _ (pw_lt a ha n) (pw_lt a ha m) ha]
theorem pw_one (a : Nat) (ha : a < 256) : pw a 1 = a := by rw [pw, pw, one_times a ha]
theorem pw_square (a : Nat) (ha : a < 256) : ∀ n, pw (times a a) n = pw a (2 * n)
  | 0 => rfl
  | n + 1 => by
    have e : 2 * (n + 1) = 2 * n + 1 + 1 := by omega
    rw [e, pw, pw, pw, pw_square a ha n, times_assoc _ _ _ (pw_lt a ha _) ha ha]
theorem pl_eq : ∀ k a n p, a < 256 → p < 256 → n < 2 ^ k → pl k a n p = times p (pw a n)
  | 0, a, n, p, _, hp, hn => by
    obtain rfl : n = 0 := by simpa using hn
    rw [pl, pw, times_one p hp]
  | k + 1, a, n, p, ha, hp, hn => by
    have hn' : n / 2 < 2 ^ k := by rw [Nat.pow_succ] at hn; omega
    rw [pl]
    by_cases h : n % 2 = 1
    · rw [if_pos h, pl_eq k _ _ _ (times_lt _ _ ha) (times_lt _ _ hp) hn', pw_square a ha, times_assoc _ _ _ hp ha (pw_lt a ha _)]
      have e : n = 1 + 2 * (n / 2) := by omega
      have e2 : pw a n = times a (pw a (2 * (n / 2))) := by
        have := pw_add a ha 1 (2 * (n / 2))
        rw [← e, pw_one a ha] at this
        exact this
      rw [e2]
    · rw [if_neg h, pl_eq k _ _ _ (times_lt _ _ ha) hp hn', pw_square a ha]
      have e : 2 * (n / 2) = n := by omega
      rw [e]
theorem pow_eq (a n : Nat) (ha : a < 256) (hn : n < 2 ^ 63) : pow a n = pw a n := by
  rw [pow, pl_eq 63 a n 1 ha (by decide) hn, one_times _ (pw_lt a ha n)]
/-- The inverse. -/
def inv (a : Nat) : Nat := pl 8 a 254 1
theorem inv_eq (a : Nat) (ha : a < 256) : inv a = pw a 254 := by
  rw [inv, pl_eq 8 a 254 1 ha (by decide) (by decide), one_times _ (pw_lt a ha _)]
theorem inv_lt (a : Nat) (ha : a < 256) : inv a < 256 := by rw [inv_eq a ha]; exact pw_lt a ha _
theorem inv_zero : inv 0 = 0 := by decide +kernel
theorem times_inv : ∀ a, a < 256 → a ≠ 0 → times a (inv a) = 1 := by decide +kernel
theorem inv_inv : ∀ a, a < 256 → inv (inv a) = a := by decide +kernel
theorem times_eq_zero (a b : Nat) (ha : a < 256) (hb : b < 256) : times a b = 0 ↔ a = 0 ∨ b = 0 := by
  constructor
  · intro h
    by_cases h0 : a = 0
    · exact .inl h0
    · right
      have h1 := times_inv a ha h0
      have h2 : times (times (inv a) a) b = b := by
        rw [times_comm _ _ (inv_lt a ha) ha, h1, one_times b hb]
      rw [times_assoc _ _ _ (inv_lt a ha) ha hb, h, times_zero] at h2
      exact h2.symm
  · rintro (rfl | rfl)
    · exact zero_times b
    · exact times_zero a
theorem pw_255 (a : Nat) (ha : a < 256) (h0 : a ≠ 0) : pw a 255 = 1 := by
  rw [pw, ← inv_eq a ha, times_comm _ _ (inv_lt a ha) ha, times_inv a ha h0]
theorem pw_255_add (a n : Nat) (ha : a < 256) (h0 : a ≠ 0) : pw a (255 + n) = pw a n := by
  rw [pw_add a ha, pw_255 a ha h0, one_times _ (pw_lt a ha n)]
end Go.Proofs.YtlkihbmkekadeaaDoor
