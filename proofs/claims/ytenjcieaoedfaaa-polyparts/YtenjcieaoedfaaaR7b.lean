/- Own: the reference's long division (no statement is proved here). -/
import Derived.Test.YtenjcieaoedfaaaR7a
import Derived.KernelRfl
namespace Go.Proofs.Ytenjcieaoedfaaa.Ab
open Go.Proofs
set_option linter.unusedSimpArgs false
def dC (r : Nat → Int) (c : Int) : Nat → Int
  | 0 => c
  | i + 1 => IntKind.i64.wrap ((IntKind.i64.wrap (IntKind.i64.wrap (2 * IntKind.i64.wrap (r i)) + dC r c i)).tdiv 256)
def dbl (r : Nat → Int) (c : Int) (i : Nat) : Int := IntKind.u8.wrap ((IntKind.i64.wrap (IntKind.i64.wrap (2 * IntKind.i64.wrap (r i)) + dC r c i)).tmod 256)
theorem r8_dbl (r : Nat → Int) (c : Int) (i : Nat) : R8 (dbl r c i) := r8_wrap _
theorem dbl_eq (r : Nat → Int) (c : Int) (hc : c = 0 ∨ c = 1) (n : Nat) (hr : ∀ i, i < n → R8 (r i)) : (dC r c n = 0 ∨ dC r c n = 1) ∧ leN n (dbl r c) + 256 ^ n * dC r c n = 2 * leN n r + c := by
  induction n with
  | zero => exact ⟨hc, by simp [leN, dC]⟩
  | succ n ih =>
    obtain ⟨h1, h2⟩ := ih fun i hi => hr i (by omega)
    have A := hr n (by omega)
    unfold R8 at A
    have e : IntKind.i64.wrap (IntKind.i64.wrap (2 * IntKind.i64.wrap (r n)) + dC r c n) = 2 * r n + dC r c n := by
      simp only [IntKind.wrap_i64]; omega
    have e1 : dC r c (n + 1) = (2 * r n + dC r c n) / 256 := by
      show IntKind.i64.wrap ((IntKind.i64.wrap (IntKind.i64.wrap (2 * IntKind.i64.wrap (r n)) + dC r c n)).tdiv 256) = _
      rw [e, Int.tdiv_eq_ediv_of_nonneg (by omega), IntKind.wrap_i64]; omega
    have e2 : dbl r c n = (2 * r n + dC r c n) % 256 := by
      unfold dbl
      rw [e, Int.tmod_eq_emod_of_nonneg (by omega), wrap_u8]; omega
    refine ⟨by rw [e1]; omega, ?_⟩
    show leN n (dbl r c) + 256 ^ n * dbl r c n + 256 ^ (n + 1) * dC r c (n + 1) = 2 * (leN n r + 256 ^ n * r n) + c
    rw [e1, e2, Int.pow_succ]
    have h5 := Int.mul_ediv_add_emod (2 * r n + dC r c n) 256
    generalize (2 * r n + dC r c n) / 256 = q at *
    have h6 : (2 * r n + dC r c n) % 256 = (2 * r n + dC r c n) - 256 * q := by omega
    rw [h6]
    generalize (256 : Int) ^ n = p at *
    grind
def zer (_ : Nat) : Int := 0
end Go.Proofs.Ytenjcieaoedfaaa.Ab
