/- Own: products are linear in either place: plain mathematics (no Go here, no statement is proved here). -/
import Derived.Test.YtlkihbmkekadeaaDoorMath
namespace Go.Proofs.YtlkihbmkekadeaaDoor
theorem tl_acc : ∀ n a b s t, tl n a b (s ^^^ t) = tl n a b s ^^^ t
  | 0, _, _, _, _ => rfl
  | n + 1, a, b, s, t => by
    rw [tl, tl, ← tl_acc n]
    congr 1
    split
    · rw [Nat.xor_assoc, Nat.xor_comm t a, Nat.xor_assoc]
    · rfl
theorem tl_left : ∀ n a a' b s, a < 256 → a' < 256 → tl n (a ^^^ a') b s = tl n a b s ^^^ tl n a' b 0
  | 0, _, _, _, s, _, _ => by simp [tl]
  | n + 1, a, a', b, s, ha, ha' => by
    rw [tl, tl, tl, dbl_xor a ha a' ha']
    by_cases h : b % 2 = 1
    · rw [if_pos h, if_pos h, if_pos h, tl_left n _ _ _ _ (dbl_lt a) (dbl_lt a'), Nat.zero_xor, ← Nat.xor_assoc, tl_acc n (dbl a) (b / 2) (s ^^^ a) a']
      have := tl_acc n (dbl a') (b / 2) 0 a'
      rw [Nat.zero_xor] at this
      rw [this]
      rw [Nat.xor_assoc, Nat.xor_comm a']
    · rw [if_neg h, if_neg h, if_neg h, tl_left n _ _ _ _ (dbl_lt a) (dbl_lt a')]
theorem times_left (a a' b : Nat) (ha : a < 256) (ha' : a' < 256) : times (a ^^^ a') b = times a b ^^^ times a' b := tl_left 8 a a' b 0 ha ha'
theorem half_xor (b b' : Nat) : (b ^^^ b') / 2 = (b / 2) ^^^ (b' / 2) := Nat.xor_div_two
theorem odd_xor (b b' : Nat) : (b ^^^ b') % 2 = 1 ↔ ¬ (b % 2 = 1 ↔ b' % 2 = 1) := by
  rw [Nat.xor_mod_two_eq_one]
theorem tl_right : ∀ n a b b' s, tl n a (b ^^^ b') s = tl n a b s ^^^ tl n a b' 0
  | 0, _, _, _, s => by simp [tl]
  | n + 1, a, b, b', s => by
    rw [tl, tl, tl, half_xor, tl_right n]
    have o := odd_xor b b'
    have t1 := fun x => tl_acc n (dbl a) (b / 2) x a
    have t2 := tl_acc n (dbl a) (b' / 2) 0 a
    rw [Nat.zero_xor] at t2
    by_cases h : b % 2 = 1 <;> by_cases h' : b' % 2 = 1
    · rw [if_neg (by rw [o]; simp [h, h']), if_pos h, if_pos h', t1, Nat.zero_xor, t2, Nat.xor_assoc, Nat.xor_comm a, Nat.xor_assoc, Nat.xor_self, Nat.xor_zero]
    · rw [if_pos (by rw [o]; simp [h, h']), if_pos h, if_neg h']
    · rw [if_pos (by rw [o]; simp [h, h']), if_neg h, if_pos h', t1, Nat.zero_xor, t2, Nat.xor_assoc, Nat.xor_comm a]
    · rw [if_neg (by rw [o]; simp [h, h']), if_neg h, if_neg h']
theorem times_right (a b b' : Nat) : times a (b ^^^ b') = times a b ^^^ times a b' := tl_right 8 a b b' 0
end Go.Proofs.YtlkihbmkekadeaaDoor
