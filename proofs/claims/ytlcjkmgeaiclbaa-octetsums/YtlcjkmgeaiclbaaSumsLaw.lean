/- Proved here: for all numbers of sixteen bytes a, b OctetSums returns true and leaves its arguments as they were (the sum and the difference of any two numbers of 128 bits are the reference's); no condition. -/
import Derived.Test.YtlcjkmgeaiclbaaSums
import Derived.Test.YtlcjkmgeaiclbaaArr16
namespace Go.Proofs.Ytlcjkmgeaiclbaa
open Go.ChangeShapes Go.WideShapes Go.ChangeAt Go.RowKit

theorem w64_lo (bs : List UInt8) : W64 (num bs 0 8 : Nat) := ⟨by omega, by have := lo_of bs; omega⟩
theorem w64_hi (bs : List UInt8) : W64 (num bs 8 8 : Nat) := ⟨by omega, by have := hi_of bs; omega⟩
theorem sums_walk (w : World) (xs : List UInt8) (hx : xs.length = 16) (ys : List UInt8) (hy : ys.length = 16) :
    Calls Try.prog 5 #[.agg (bcells xs).toArray, .agg (bcells ys).toArray] w fun e w' => e = .returned (.bool true) ∧ Below w.heap.size w w' := by
  have lP : (sumP xs ys).length = 16 := by simp [sumP]
  have lM : (sumM xs ys).length = 16 := by simp [sumM]
  have wS : ∀ w, Calls Try.prog 17 #[.agg (bcells (sumP xs ys)).toArray] w fun e w' => e = .returned (.agg #[.int .u64 (plusLo (num xs 0 8 : Nat) (num ys 0 8 : Nat)), .int .u64 (plusHi (num xs 0 8 : Nat) (num xs 8 8 : Nat) (num ys 0 8 : Nat) (num ys 8 8 : Nat))]) ∧ Below w.heap.size w w' := by
    intro w
    rw [sum_lo xs ys hx hy, sum_hi xs ys hx hy]
    exact wide_any _ lP w
  have wD : ∀ w, Calls Try.prog 17 #[.agg (bcells (sumM xs ys)).toArray] w fun e w' => e = .returned (.agg #[.int .u64 (minusLo (num xs 0 8 : Nat) (num ys 0 8 : Nat)), .int .u64 (minusHi (num xs 0 8 : Nat) (num xs 8 8 : Nat) (num ys 0 8 : Nat) (num ys 8 8 : Nat))]) ∧ Below w.heap.size w w' := by
    intro w
    rw [dif_lo xs ys hx hy, dif_hi xs ys hx hy]
    exact wide_any _ lM w
  exact sums_core (bcells xs) (bcells ys) (bcells (sumP xs ys)) (bcells (sumM xs ys)) _ _ _ _ w (w64_lo xs) (w64_hi xs) (w64_lo ys) (w64_hi ys) (by rw [length_bcells, hx]) (by rw [length_bcells, hy])
    (hide (wide_any xs hx)) (hide (wide_any ys hy)) (hide wS) (hide wD) (hide (rplus_any xs ys hx hy)) (hide (rminus_any xs ys hx hy))

set_option linter.unusedVariables false in
set_option maxRecDepth 100000 in
theorem octetSums_lifted (os : Os) (started : os.Started) (H : Type) (enc : TypeId × Value → H) :
    ReturnsInHanded {} Try.checked os 5 .any (Rows.octetSumsSpec.pre6 enc Try.prog Try.f5 Rows.octetSumsRow.domain false) (Rows.octetSumsSpec.post enc Try.prog Try.f5 false true false false) := by
  refine returnsInHanded_of_change (C := Try.checked) own started (by kernel_rfl) Try.func5
    (ChangeSpec.witness6 (enc := enc) (C := Try.checked) false ⟨#[], #[.agg #[.int .u8 0, .int .u8 0, .int .u8 0, .int .u8 0, .int .u8 0, .int .u8 0, .int .u8 0, .int .u8 0, .int .u8 0, .int .u8 0, .int .u8 0, .int .u8 0, .int .u8 0, .int .u8 0, .int .u8 0, .int .u8 0], .agg #[.int .u8 0, .int .u8 0, .int .u8 0, .int .u8 0, .int .u8 0, .int .u8 0, .int .u8 0, .int .u8 0, .int .u8 0, .int .u8 0, .int .u8 0, .int .u8 0, .int .u8 0, .int .u8 0, .int .u8 0, .int .u8 0]], []⟩ 8 (by kernel_rfl) (by kernel_rfl) (by kernel_rfl) (by kernel_rfl)) ?_
  intro W base args ds gs before hval0 hW hcnd _
  have hval : ∀ (j : Nat) t v, Try.f5.params[j]? = some t → args[j]? = some v → Value.okWide Try.prog W .any base t v := hval0
  have hW' := hW
  obtain ⟨p, q, hA0, hV, rfl, hfz, hnd⟩ := hW
  have hA : DataW.TrodAll enc Try.prog W 0 (fun _ => true) true Try.f5.params.toList args.toList ds p := hA0
  rw [Try.params5] at hA hval
  obtain ⟨v0, vs0, d0, ds0, p0, q0, hargs, rfl, rfl, h0, r0⟩ := trodAll_cons hA
  obtain ⟨v1, vs1, d1, ds1, p1, q1, rfl, rfl, rfl, h1, r1⟩ := trodAll_cons r0
  obtain ⟨rfl, rfl, rfl⟩ := trodAll_nil r1
  obtain rfl : args = #[v0, v1] := by cases args; simp_all
  obtain ⟨rfl, rfl⟩ := trodVars_none hV
  have lt0 : ∀ x ∈ p0, x.block < W.heap.size := by obtain ⟨m, hm⟩ := h0; exact DataW.trod_lt m _ _ _ hm
  have lt1 : ∀ x ∈ p1, x.block < W.heap.size := by obtain ⟨m, hm⟩ := h1; exact DataW.trod_lt m _ _ _ hm
  obtain ⟨bs0, hl0, rfl⟩ := arr16_of_trod (hval 0 27 v0 rfl rfl) h0
  obtain ⟨bs1, hl1, rfl⟩ := arr16_of_trod (hval 1 27 v1 rfl rfl) h1
  clear hA0 hval0
  refine (sums_walk W bs0 hl0 bs1 hl1).mono fun e W' ⟨he, bel⟩ => ?_
  subst he
  exact ⟨_, rfl, _, _, _, [], _, [], hW', trodAll_mk1 (shut_bool Try.underlying4 _), (trodAll_cons_mk (Below.trod laidOut (by kernel_rfl) (of_decide_eq_true (by kernel_rfl)) h0 bel lt0) (trodAll_cons_mk (Below.trod laidOut (by kernel_rfl) (of_decide_eq_true (by kernel_rfl)) h1 bel lt1) trodAll_mk0)), rfl, bel.frame _, fun h => by cases h⟩

theorem octetSums_holds : Rows.OctetSumsSaid :=
  OpenClaim.holds_of_wide 5 Try.f5 rfl rfl rfl rfl rfl rfl rfl ⟨rfl, rfl, rfl, rfl, rfl⟩ rfl rfl rfl rfl rfl (by kernel_rfl) Try.func5 (by kernel_rfl)
    (of_decide_eq_true (by kernel_rfl)) (by unfold Func.isWrapper; first | (rw [if_pos (by decide +kernel)]; kernel_rfl) | (rw [if_neg (by decide +kernel)]; exact ⟨rfl, rfl⟩))
    (fun os started H enc _ => octetSums_lifted os started H enc)
#print axioms octetSums_holds

end Go.Proofs.Ytlcjkmgeaiclbaa
