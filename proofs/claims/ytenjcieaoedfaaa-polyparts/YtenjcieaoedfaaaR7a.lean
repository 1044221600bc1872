/- Own: the reference's prime, and how its numbers are held against each other and taken away (no statement is proved here). -/
import Derived.Test.YtenjcieaoedfaaaN0
import Derived.KernelRfl
namespace Go.Proofs.Ytenjcieaoedfaaa.Ab
open Go.Proofs
set_option linter.unusedSimpArgs false
def pB : Nat → Int := dig 1361129467683753853853498429727072845819
def mB (a b : Nat → Int) : Nat → Int
  | 0 => 0
  | i + 1 => IntKind.i64.wrap (1 - IntKind.i64.wrap ((IntKind.i64.wrap (IntKind.i64.wrap (IntKind.i64.wrap (256 + IntKind.i64.wrap (a i)) - IntKind.i64.wrap (b i)) - mB a b i)).tdiv 256))
def mns (a b : Nat → Int) (i : Nat) : Int := IntKind.u8.wrap ((IntKind.i64.wrap (IntKind.i64.wrap (IntKind.i64.wrap (256 + IntKind.i64.wrap (a i)) - IntKind.i64.wrap (b i)) - mB a b i)).tmod 256)
theorem less_dec (a b : Nat → Int) (ha : ∀ i, i < 17 → R8 (a i)) (hb : ∀ i, i < 17 → R8 (b i)) (j : Nat) (hj : j < 17) (he : ∀ i, j < i → i < 17 → a i = b i) (hc : (a j != b j) = true) : decide (a j < b j) = decide (leN 17 a < leN 17 b) := by
  have hne : a j ≠ b j := by simpa using hc
  by_cases h : a j < b j
  · rw [decide_eq_true h, decide_eq_true (leN_lt 17 a b ha hb j hj h he)]
  · have := leN_lt 17 b a hb ha j hj (by omega) fun i h1 h2 => (he i h1 h2).symm
    rw [decide_eq_false h, decide_eq_false (by omega)]
theorem eq_step (a b : Nat → Int) (j : Nat) (he : ∀ i, j < i → i < 17 → a i = b i) (hc : (a j != b j) = false) : ∀ i, j ≤ i → i < 17 → a i = b i := fun i h1 h2 => by
  by_cases h : i = j
  · subst h; simpa using hc
  · exact he i (by omega) h2
/-- What is taken away, reckoned. -/
theorem mB_range (a b : Nat → Int) (n : Nat) (ha : ∀ i, i < n → R8 (a i)) (hb : ∀ i, i < n → R8 (b i)) : (mB a b n = 0 ∨ mB a b n = 1) ∧ leN n (mns a b) = leN n a - leN n b + 256 ^ n * mB a b n := by
  induction n with
  | zero => exact ⟨.inl rfl, by simp [leN, mB]⟩
  | succ n ih =>
    obtain ⟨h1, h2⟩ := ih (fun i hi => ha i (by omega)) (fun i hi => hb i (by omega))
    have A := ha n (by omega)
    have B := hb n (by omega)
    unfold R8 at A B
    have e : IntKind.i64.wrap (IntKind.i64.wrap (IntKind.i64.wrap (256 + IntKind.i64.wrap (a n)) - IntKind.i64.wrap (b n)) - mB a b n) = 256 + a n - b n - mB a b n := by
      simp only [IntKind.wrap_i64]; omega
    have e1 : mB a b (n + 1) = 1 - (256 + a n - b n - mB a b n) / 256 := by
      show IntKind.i64.wrap (1 - IntKind.i64.wrap ((IntKind.i64.wrap (IntKind.i64.wrap (IntKind.i64.wrap (256 + IntKind.i64.wrap (a n)) - IntKind.i64.wrap (b n)) - mB a b n)).tdiv 256)) = _
      rw [e, Int.tdiv_eq_ediv_of_nonneg (by omega), IntKind.wrap_i64, IntKind.wrap_i64]; omega
    have e2 : mns a b n = (256 + a n - b n - mB a b n) % 256 := by
      unfold mns
      rw [e, Int.tmod_eq_emod_of_nonneg (by omega), wrap_u8]; omega
    refine ⟨by rw [e1]; omega, ?_⟩
    show leN n (mns a b) + 256 ^ n * mns a b n = leN n a + 256 ^ n * a n - (leN n b + 256 ^ n * b n) + 256 ^ (n + 1) * mB a b (n + 1)
    rw [h2, e1, e2, Int.pow_succ]
    generalize (256 : Int) ^ n = p
    have h5 := Int.mul_ediv_add_emod (256 + a n - b n - mB a b n) 256
    generalize (256 + a n - b n - mB a b n) / 256 = q at *
    have h6 : (256 + a n - b n - mB a b n) % 256 = (256 + a n - b n - mB a b n) - 256 * q := by omega
    rw [h6]
    grind
theorem r8_mns (a b : Nat → Int) (i : Nat) : R8 (mns a b i) := r8_wrap _
end Go.Proofs.Ytenjcieaoedfaaa.Ab
