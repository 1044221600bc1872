/- Proved here: for every key, tweak and message AdhashSums returns true and leaves its arguments as they were (the body and the sum are what the document defines); no condition. -/
import Derived.Test.YtddnfcgbfpbagaaD8s
import Derived.Test.YtddnfcgbfpbagaaL12
namespace Go.Proofs.Ytddnfcgbfpbagaa
open Go.ChangeShapes Go.WideShapes Go.ChangeAt Go.RowKit Go.Joins Ab
set_option linter.unusedVariables false in
set_option maxRecDepth 100000 in
theorem adhashSums_lifted (os : Os) (started : os.Started) (H : Type) (enc : TypeId × Value → H) :
    ReturnsInHanded {} Try.checked os 6 .any (Rows.adhashSumsSpec.pre6 enc Try.prog Try.f6 Rows.adhashSumsRow.domain false) (Rows.adhashSumsSpec.post enc Try.prog Try.f6 false true false false) := by
  refine returnsInHanded_of_change (C := Try.checked) own started (by kernel_rfl) Try.func6
    (ChangeSpec.witness6 (enc := enc) (C := Try.checked) false ⟨#[], #[.slice none 0 0, .slice none 0 0, .slice none 0 0], []⟩ 8 (by kernel_rfl) (by kernel_rfl) (by kernel_rfl) (by kernel_rfl)) ?_
  intro W base args ds gs before hval0 hW hcnd _
  have hval : ∀ (j : Nat) t v, Try.f6.params[j]? = some t → args[j]? = some v → Value.okWide Try.prog W .any base t v := hval0
  have hW' := hW
  obtain ⟨p, q, hA0, hV, rfl, hfz, hnd⟩ := hW
  have hA : DataW.TrodAll enc Try.prog W 0 (fun _ => true) true Try.f6.params.toList args.toList ds p := hA0
  rw [Try.params6] at hA hval
  obtain ⟨v0, vs0, d0, ds0, p0, q0, hargs, rfl, rfl, h0, r0⟩ := trodAll_cons hA
  obtain ⟨v1, vs1, d1, ds1, p1, q1, rfl, rfl, rfl, h1, r1⟩ := trodAll_cons r0
  obtain ⟨v2, vs2, d2, ds2, p2, q2, rfl, rfl, rfl, h2, r2⟩ := trodAll_cons r1
  obtain ⟨rfl, rfl, rfl⟩ := trodAll_nil r2
  obtain rfl : args = #[v0, v1, v2] := by cases args; simp_all
  obtain ⟨rfl, rfl⟩ := trodVars_none hV
  have lt0 : ∀ x ∈ p0, x.block < W.heap.size := by obtain ⟨m, hm⟩ := h0; exact DataW.trod_lt m _ _ _ hm
  have lt1 : ∀ x ∈ p1, x.block < W.heap.size := by obtain ⟨m, hm⟩ := h1; exact DataW.trod_lt m _ _ _ hm
  have lt2 : ∀ x ∈ p2, x.block < W.heap.size := by obtain ⟨m, hm⟩ := h2; exact DataW.trod_lt m _ _ _ hm
  obtain ⟨a0, len0, cap0, rfl⟩ := okWide_slice Try.underlying27 (hval 0 27 v0 rfl rfl)
  obtain ⟨bs0, hb0, hl0, hs0⟩ := s8_of_trod h0
  obtain ⟨a1, len1, cap1, rfl⟩ := okWide_slice Try.underlying27 (hval 1 27 v1 rfl rfl)
  obtain ⟨bs1, hb1, hl1, hs1⟩ := s8_of_trod h1
  obtain ⟨a2, len2, cap2, rfl⟩ := okWide_slice Try.underlying27 (hval 2 27 v2 rfl rfl)
  obtain ⟨bs2, hb2, hl2, hs2⟩ := s8_of_trod h2
  clear hA0 hval0
  refine (CallOK.plainly ((fun kb hk _ t ht _ bs hb _ => asums_ok kb t bs hk ht hb) bs0 hb0 hl0 bs1 hb1 hl1 bs2 hb2 hl2) (rhoOf [locOf (.slice a0 len0 cap0), locOf (.slice a1 len1 cap1), locOf (.slice a2 len2 cap2)]) W [.slice a0 len0 cap0, .slice a1 len1 cap1, .slice a2 len2 cap2] (relL_cons (hs0.rel rfl) (relL_cons (hs1.rel rfl) (relL_cons (hs2.rel rfl) relL_nil))) (BAll.mem (ρ := rhoOf [locOf (.slice a0 len0 cap0), locOf (.slice a1 len1 cap1), locOf (.slice a2 len2 cap2)]) (W := W) ⟨(hs0.view rfl), ⟨(hs1.view rfl), ⟨(hs2.view rfl), trivial⟩⟩⟩) (wr_of (by kernel_rfl)) (fun g k hg => by cases hg)).mono fun e W' ⟨he, bel⟩ => ?_
  subst he
  exact ⟨_, rfl, _, _, _, [], _, [], hW', trodAll_mk1 (shut_bool Try.underlying4 _), (trodAll_cons_mk (Below.trod laidOut (by kernel_rfl) (of_decide_eq_true (by kernel_rfl)) h0 bel lt0) (trodAll_cons_mk (Below.trod laidOut (by kernel_rfl) (of_decide_eq_true (by kernel_rfl)) h1 bel lt1) (trodAll_cons_mk (Below.trod laidOut (by kernel_rfl) (of_decide_eq_true (by kernel_rfl)) h2 bel lt2) trodAll_mk0))), rfl, bel.frame _, fun h => by cases h⟩

theorem adhashSums_holds : Rows.AdhashSumsSaid :=
  OpenClaim.holds_of_wide 6 Try.f6 rfl rfl rfl rfl rfl rfl rfl ⟨rfl, rfl, rfl, rfl, rfl⟩ rfl rfl rfl rfl rfl (by kernel_rfl) Try.func6 (by kernel_rfl)
    (of_decide_eq_true (by kernel_rfl)) (by unfold Func.isWrapper; first | (rw [if_pos (by decide +kernel)]; kernel_rfl) | (rw [if_neg (by decide +kernel)]; exact ⟨rfl, rfl⟩))
    (fun os started H enc _ => adhashSums_lifted os started H enc)
#print axioms adhashSums_holds

end Go.Proofs.Ytddnfcgbfpbagaa
