/- Own: plain mathematics of the field of 256 elements (no Go here, no statement is proved here). -/
import Derived.Test.YtlkihbmkekadeaaDoorRows
namespace Go.Proofs.YtlkihbmkekadeaaDoor

/-- The product with x. -/
def dbl (a : Nat) : Nat := if a.testBit 7 then (2 * a % 256) ^^^ 27 else 2 * a % 256
/-- A product, added up bit by bit. -/
def tl : Nat → Nat → Nat → Nat → Nat
  | 0, _, _, s => s
  | n + 1, a, b, s => tl n (dbl a) (b / 2) (if b % 2 = 1 then s ^^^ a else s)
def times (a b : Nat) : Nat := tl 8 a b 0
/-- A power, by squares. -/
def pl : Nat → Nat → Nat → Nat → Nat
  | 0, _, _, p => p
  | k + 1, a, n, p => pl k (times a a) (n / 2) (if n % 2 = 1 then times p a else p)
def pow (a n : Nat) : Nat := pl 63 a n 1

theorem xor_lt (a b : Nat) (ha : a < 256) (hb : b < 256) : a ^^^ b < 256 := Nat.xor_lt_two_pow (n := 8) ha hb
theorem dbl_lt (a : Nat) : dbl a < 256 := by
  unfold dbl; split
  · exact xor_lt _ _ (Nat.mod_lt _ (by decide)) (by decide)
  · exact Nat.mod_lt _ (by decide)
theorem tl_zero : ∀ n a s, tl n a 0 s = s
  | 0, _, _ => rfl
  | n + 1, a, s => by rw [tl]; simpa using tl_zero n (dbl a) s
theorem tl_lt : ∀ n a b s, a < 256 → s < 256 → tl n a b s < 256
  | 0, _, _, _, _, h => h
  | n + 1, a, b, s, ha, hs => by
    rw [tl]
    refine tl_lt n _ _ _ (dbl_lt a) ?_
    split
    · exact xor_lt _ _ hs ha
    · exact hs
theorem times_lt (a b : Nat) (ha : a < 256) : times a b < 256 := tl_lt 8 a b 0 ha (by decide)
theorem pl_zero : ∀ n a p, pl n a 0 p = p
  | 0, _, _ => rfl
  | n + 1, a, p => by rw [pl]; simpa using pl_zero n (times a a) p

/-! Linear in either place. -/
theorem dbl_xor : ∀ a, a < 256 → ∀ b, b < 256 → dbl (a ^^^ b) = dbl a ^^^ dbl b := by decide +kernel
end Go.Proofs.YtlkihbmkekadeaaDoor
