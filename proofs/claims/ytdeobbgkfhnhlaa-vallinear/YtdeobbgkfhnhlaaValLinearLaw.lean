/- Proved here: for every element and all rows of pairs of blocks ValLinear returns true and leaves its arguments as they were (values of as many blocks go over sums); no condition. -/
import Derived.Test.YtdeobbgkfhnhlaaV10
import Derived.Test.YtdeobbgkfhnhlaaL8
import Derived.Test.YtdeobbgkfhnhlaaL1
namespace Go.Proofs.Ytdeobbgkfhnhlaa
open Go.ChangeShapes Go.WideShapes Go.ChangeAt Go.RowKit Go.Joins Ab
theorem valLinear_any (a : Nat → Int) (ha : ∀ j, j < 16 → R8 (a j)) (n : Nat) (bs : List Int) (hb : ∀ x ∈ bs, R8 x) (hl : bs.length = 32 * n) : CallOK Try.prog (fun _ => none) 7 [.ex (.agg (ar8 16 a).toArray), .sv 0 0 n] [(0, .view (bs.map (Value.int .u8)))] { val := .ex (.bool true) } := by
  rw [ar8_el a ha]; exact vlinear_ok _ n bs hb hl
set_option linter.unusedVariables false in
set_option maxRecDepth 100000 in
theorem valLinear_lifted (os : Os) (started : os.Started) (H : Type) (enc : TypeId × Value → H) :
    ReturnsInHanded {} Try.checked os 7 .any (Rows.valLinearSpec.pre6 enc Try.prog Try.f7 Rows.valLinearRow.domain false) (Rows.valLinearSpec.post enc Try.prog Try.f7 false true false false) := by
  refine returnsInHanded_of_change (C := Try.checked) own started (by kernel_rfl) Try.func7
    (ChangeSpec.witness6 (enc := enc) (C := Try.checked) false ⟨#[], #[.agg #[.int .u8 0, .int .u8 0, .int .u8 0, .int .u8 0, .int .u8 0, .int .u8 0, .int .u8 0, .int .u8 0, .int .u8 0, .int .u8 0, .int .u8 0, .int .u8 0, .int .u8 0, .int .u8 0, .int .u8 0, .int .u8 0], .slice none 0 0], []⟩ 8 (by kernel_rfl) (by kernel_rfl) (by kernel_rfl) (by kernel_rfl)) ?_
  intro W base args ds gs before hval0 hW hcnd _
  have hval : ∀ (j : Nat) t v, Try.f7.params[j]? = some t → args[j]? = some v → Value.okWide Try.prog W .any base t v := hval0
  have hW' := hW
  obtain ⟨p, q, hA0, hV, rfl, hfz, hnd⟩ := hW
  have hA : DataW.TrodAll enc Try.prog W 0 (fun _ => true) true Try.f7.params.toList args.toList ds p := hA0
  rw [Try.params7] at hA hval
  obtain ⟨v0, vs0, d0, ds0, p0, q0, hargs, rfl, rfl, h0, r0⟩ := trodAll_cons hA
  obtain ⟨v1, vs1, d1, ds1, p1, q1, rfl, rfl, rfl, h1, r1⟩ := trodAll_cons r0
  obtain ⟨rfl, rfl, rfl⟩ := trodAll_nil r1
  obtain rfl : args = #[v0, v1] := by cases args; simp_all
  obtain ⟨rfl, rfl⟩ := trodVars_none hV
  have lt0 : ∀ x ∈ p0, x.block < W.heap.size := by obtain ⟨m, hm⟩ := h0; exact DataW.trod_lt m _ _ _ hm
  have lt1 : ∀ x ∈ p1, x.block < W.heap.size := by obtain ⟨m, hm⟩ := h1; exact DataW.trod_lt m _ _ _ hm
  obtain ⟨f0, rfl, hf0⟩ := a16_of_trod (hval 0 22 v0 rfl rfl) h0
  obtain ⟨a1, len1, cap1, rfl⟩ := okWide_slice Try.underlying35 (hval 1 35 v1 rfl rfl)
  obtain ⟨bs1, hb1, hl1, hs1⟩ := sa32_of_trod h1
  have hz1 : bs1 = [] → len1 = 0 := fun e => by rw [e, List.length_nil] at hl1; omega
  clear hA0 hval0
  refine (CallOK.plainly (valLinear_any f0 hf0 len1 bs1 hb1 hl1) (rhoOf [locOf (.slice a1 len1 cap1)]) W [.agg (ar8 16 f0).toArray, .slice a1 len1 cap1] (relL_cons (.ex _) (relL_cons (hs1.rel hz1 rfl) relL_nil)) (BAll.mem (ρ := rhoOf [locOf (.slice a1 len1 cap1)]) (W := W) ⟨(hs1.view hz1 rfl), trivial⟩) (wr_of (by kernel_rfl)) (fun g k hg => by cases hg)).mono fun e W' ⟨he, bel⟩ => ?_
  subst he
  exact ⟨_, rfl, _, _, _, [], _, [], hW', trodAll_mk1 (shut_bool Try.underlying4 _), (trodAll_cons_mk (Below.trod laidOut (by kernel_rfl) (of_decide_eq_true (by kernel_rfl)) h0 bel lt0) (trodAll_cons_mk (Below.trod laidOut (by kernel_rfl) (of_decide_eq_true (by kernel_rfl)) h1 bel lt1) trodAll_mk0)), rfl, bel.frame _, fun h => by cases h⟩

theorem valLinear_holds : Rows.ValLinearSaid :=
  OpenClaim.holds_of_wide 7 Try.f7 rfl rfl rfl rfl rfl rfl rfl ⟨rfl, rfl, rfl, rfl, rfl⟩ rfl rfl rfl rfl rfl (by kernel_rfl) Try.func7 (by kernel_rfl)
    (of_decide_eq_true (by kernel_rfl)) (by unfold Func.isWrapper; first | (rw [if_pos (by decide +kernel)]; kernel_rfl) | (rw [if_neg (by decide +kernel)]; exact ⟨rfl, rfl⟩))
    (fun os started H enc _ => valLinear_lifted os started H enc)
#print axioms valLinear_holds

end Go.Proofs.Ytdeobbgkfhnhlaa
