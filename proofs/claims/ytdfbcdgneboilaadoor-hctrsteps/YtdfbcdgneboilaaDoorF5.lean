/- Own: half bytes joined, and the reference's (no statement is proved here). -/
import Derived.Test.YtdfbcdgneboilaaDoorF2
import Derived.KernelRfl
namespace Go.Proofs.YtdfbcdgneboilaaDoor.Ab
open Go.Proofs
set_option linter.unusedSimpArgs false
set_option linter.unusedVariables false
set_option maxRecDepth 4000
/-- A byte of two half bytes. -/
def jnb (hs : List Int) (k : Nat) : Int := bAt hs ((2 * k : Nat) : Int) % 16 * 16 + bAt hs ((2 * k + 1 : Nat) : Int) % 16
/-- ... of the first half bytes. -/
def jn (hs : List Int) (i k : Nat) : Int := (if 2 * k < i then bAt hs ((2 * k : Nat) : Int) % 16 * 16 else 0) + (if 2 * k + 1 < i then bAt hs ((2 * k + 1 : Nat) : Int) % 16 else 0)
def jst (f h : Int) (r : Nat) : Int := IntKind.u8.wrap (BitVec.ofInt 8 f ||| BitVec.ofInt 8 (IntKind.u8.wrap (IntKind.u8.wrap (BitVec.ofInt 8 h &&& BitVec.ofInt 8 15).toNat * 2 ^ min (((4 - r * 4 : Nat) : Int)).toNat 8))).toNat
theorem jst0 : ∀ m : Nat, m < 256 → jst 0 ((m : Nat) : Int) 0 = ((m : Nat) : Int) % 16 * 16 := by decide +kernel
theorem jst1 : ∀ q : Nat, q < 16 → ∀ m : Nat, m < 256 → jst (((q : Nat) : Int) * 16) ((m : Nat) : Int) 1 = ((q : Nat) : Int) * 16 + ((m : Nat) : Int) % 16 := by decide +kernel
theorem jst_eq (hs : List Int) (h8 : All8 hs) (i : Nat) : jst (jn hs i (i / 2)) (bAt hs (i : Int)) (i % 2) = jn hs (i + 1) (i / 2) := by
  have h := h8.at (i : Int)
  obtain ⟨m, hm⟩ := Int.eq_ofNat_of_zero_le h.1
  have h256 : m < 256 := by have := h.2; omega
  have hp : i % 2 = 0 ∨ i % 2 = 1 := by omega
  unfold jn
  rcases hp with hp | hp
  · rw [if_neg (by omega), if_neg (by omega), if_pos (by omega), if_neg (by omega), hp, show 2 * (i / 2) = i by omega, hm]
    have := jst0 m h256
    simpa using this
  · have hq := h8.at (((2 * (i / 2) : Nat) : Nat) : Int)
    obtain ⟨q, hq'⟩ := Int.eq_ofNat_of_zero_le (show 0 ≤ bAt hs ((2 * (i / 2) : Nat) : Int) % 16 by omega)
    rw [if_pos (by omega), if_neg (by omega), if_pos (by omega), if_pos (by omega), hp, show 2 * (i / 2) + 1 = i by omega, hm, hq', Int.add_zero]
    exact jst1 q (by omega) m h256
theorem jn_other (hs : List Int) (i k : Nat) (h : k ≠ i / 2) : jn hs (i + 1) k = jn hs i k := by
  unfold jn
  congr 1
  · by_cases h1 : 2 * k < i
    · rw [if_pos h1, if_pos (by omega)]
    · rw [if_neg h1, if_neg (by omega)]
  · by_cases h1 : 2 * k + 1 < i
    · rw [if_pos h1, if_pos (by omega)]
    · rw [if_neg h1, if_neg (by omega)]
theorem jn_all (hs : List Int) (k : Nat) : jn hs hs.length k = jnb hs k := by
  unfold jn jnb
  have h0 : ∀ j : Nat, hs.length ≤ j → bAt hs (j : Int) = 0 := fun j hj => by
    unfold bAt
    simp
    omega
  congr 1
  · split
    · rfl
    · rw [h0 _ (by omega)]; rfl
  · split
    · rfl
    · rw [h0 _ (by omega)]; rfl
theorem r8_jnb (hs : List Int) (h8 : All8 hs) (k : Nat) : R8 (jnb hs k) := by
  unfold jnb R8; omega
theorem wrapU8 (v : Int) (h : 0 ≤ v ∧ v ≤ 255) : IntKind.u8.wrap v = v := by
  obtain ⟨m, rfl⟩ := Int.eq_ofNat_of_zero_le h.1
  exact (by decide +kernel : ∀ m : Nat, m < 256 → IntKind.u8.wrap ((m : Nat) : Int) = ((m : Nat) : Int)) m (by omega)
end Go.Proofs.YtdfbcdgneboilaaDoor.Ab
