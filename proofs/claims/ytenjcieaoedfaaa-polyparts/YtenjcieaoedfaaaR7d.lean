/- Own: the reference's numbers of bytes, sums, parts and lowest bytes (no statement is proved here). -/
import Derived.Test.YtenjcieaoedfaaaR7c
import Derived.KernelRfl
namespace Go.Proofs.Ytenjcieaoedfaaa.Ab
open Go.Proofs
set_option linter.unusedSimpArgs false
/-- A value, taken modulo the prime, in bytes. -/
def rst (v : Int) : Nat → Int := dig (v % 1361129467683753853853498429727072845819)
def ofL (b : Nat → Int) (h : Int) : List Int := (List.range 16).map b ++ [putw h 0, putw h 1, putw h 2, putw h 3]
theorem allN_range (n : Nat) (f : Nat → Int) (B : Int) (h : ∀ i, i < n → 0 ≤ f i ∧ f i ≤ B) : AllN ((List.range n).map f) B := by
  intro x hx
  obtain ⟨i, hi, rfl⟩ := List.mem_map.1 hx
  exact h i (by simpa using hi)
def sm (a b : Nat → Int) (i : Nat) : Int := IntKind.i64.wrap (IntKind.i64.wrap (a i) + IntKind.i64.wrap (b i))
theorem upd_range {n : Nat} {f : Nat → Int} {t : Nat} {v B B' : Int} (hB : B ≤ B') (hv : 0 ≤ v ∧ v ≤ B') (h : ∀ i, i < n → 0 ≤ f i ∧ f i ≤ B) : ∀ i, i < n → 0 ≤ upd f t v i ∧ upd f t v i ≤ B' := fun i hi => by
  have := h i hi
  unfold upd
  split
  · exact hv
  · omega
theorem times_step (L2 p q ai bk L F : Int) : L2 + p * ai * L + p * q * (F + ai * bk - F) = L2 + p * ai * (L + q * bk) := by grind
end Go.Proofs.Ytenjcieaoedfaaa.Ab
