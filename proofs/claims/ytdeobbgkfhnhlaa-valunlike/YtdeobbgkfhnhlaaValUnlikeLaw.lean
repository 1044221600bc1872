/- Proved here: for all two tweaks and messages ValUnlike returns true and leaves its arguments as they were (they have one row just if both are the same); no condition. -/
import Derived.Test.YtdeobbgkfhnhlaaV11
import Derived.Test.YtdeobbgkfhnhlaaL11
namespace Go.Proofs.Ytdeobbgkfhnhlaa
open Go.ChangeShapes Go.WideShapes Go.ChangeAt Go.RowKit Go.Joins Ab
set_option linter.unusedVariables false in
set_option maxRecDepth 100000 in
theorem valUnlike_lifted (os : Os) (started : os.Started) (H : Type) (enc : TypeId × Value → H) :
    ReturnsInHanded {} Try.checked os 6 .any (Rows.valUnlikeSpec.pre6 enc Try.prog Try.f6 Rows.valUnlikeRow.domain false) (Rows.valUnlikeSpec.post enc Try.prog Try.f6 false true false false) := by
  refine returnsInHanded_of_change (C := Try.checked) own started (by kernel_rfl) Try.func6
    (ChangeSpec.witness6 (enc := enc) (C := Try.checked) false ⟨#[], #[.agg #[.slice none 0 0, .slice none 0 0], .agg #[.slice none 0 0, .slice none 0 0]], []⟩ 8 (by kernel_rfl) (by kernel_rfl) (by kernel_rfl) (by kernel_rfl)) ?_
  intro W base args ds gs before hval0 hW hcnd _
  have hval : ∀ (j : Nat) t v, Try.f6.params[j]? = some t → args[j]? = some v → Value.okWide Try.prog W .any base t v := hval0
  have hW' := hW
  obtain ⟨p, q, hA0, hV, rfl, hfz, hnd⟩ := hW
  have hA : DataW.TrodAll enc Try.prog W 0 (fun _ => true) true Try.f6.params.toList args.toList ds p := hA0
  rw [Try.params6] at hA hval
  obtain ⟨v0, vs0, d0, ds0, p0, q0, hargs, rfl, rfl, h0, r0⟩ := trodAll_cons hA
  obtain ⟨v1, vs1, d1, ds1, p1, q1, rfl, rfl, rfl, h1, r1⟩ := trodAll_cons r0
  obtain ⟨rfl, rfl, rfl⟩ := trodAll_nil r1
  obtain rfl : args = #[v0, v1] := by cases args; simp_all
  obtain ⟨rfl, rfl⟩ := trodVars_none hV
  have lt0 : ∀ x ∈ p0, x.block < W.heap.size := by obtain ⟨m, hm⟩ := h0; exact DataW.trod_lt m _ _ _ hm
  have lt1 : ∀ x ∈ p1, x.block < W.heap.size := by obtain ⟨m, hm⟩ := h1; exact DataW.trod_lt m _ _ _ hm
  obtain ⟨a0_0, len0_0, cap0_0, bs0_0, a0_1, len0_1, cap0_1, bs0_1, rfl, hb0_0, hl0_0, hs0_0, hb0_1, hl0_1, hs0_1⟩ := two_of_trod (hval 0 33 v0 rfl rfl) h0
  obtain ⟨a1_0, len1_0, cap1_0, bs1_0, a1_1, len1_1, cap1_1, bs1_1, rfl, hb1_0, hl1_0, hs1_0, hb1_1, hl1_1, hs1_1⟩ := two_of_trod (hval 1 33 v1 rfl rfl) h1
  clear hA0 hval0
  refine (CallOK.plainly ((fun t ht _ m hm _ s hs _ n hn _ => vunlike_ok t m s n ht hm hs hn) bs0_0 hb0_0 hl0_0 bs0_1 hb0_1 hl0_1 bs1_0 hb1_0 hl1_0 bs1_1 hb1_1 hl1_1) (rhoOf [locOf (.slice a0_0 len0_0 cap0_0), locOf (.slice a0_1 len0_1 cap0_1), locOf (.slice a1_0 len1_0 cap1_0), locOf (.slice a1_1 len1_1 cap1_1)]) W [.agg ([Value.slice a0_0 len0_0 cap0_0] ++ [Value.slice a0_1 len0_1 cap0_1]).toArray, .agg ([Value.slice a1_0 len1_0 cap1_0] ++ [Value.slice a1_1 len1_1 cap1_1]).toArray] (relL_cons (rel_agg (relL_app (relL_cons (hs0_0.rel rfl) relL_nil) (relL_cons (hs0_1.rel rfl) relL_nil))) (relL_cons (rel_agg (relL_app (relL_cons (hs1_0.rel rfl) relL_nil) (relL_cons (hs1_1.rel rfl) relL_nil))) relL_nil)) (BAll.mem (ρ := rhoOf [locOf (.slice a0_0 len0_0 cap0_0), locOf (.slice a0_1 len0_1 cap0_1), locOf (.slice a1_0 len1_0 cap1_0), locOf (.slice a1_1 len1_1 cap1_1)]) (W := W) ⟨(hs0_0.view rfl), ⟨(hs0_1.view rfl), ⟨(hs1_0.view rfl), ⟨(hs1_1.view rfl), trivial⟩⟩⟩⟩) (wr_of (by kernel_rfl)) (fun g k hg => by cases hg)).mono fun e W' ⟨he, bel⟩ => ?_
  subst he
  exact ⟨_, rfl, _, _, _, [], _, [], hW', trodAll_mk1 (shut_bool Try.underlying4 _), (trodAll_cons_mk (Below.trod laidOut (by kernel_rfl) (of_decide_eq_true (by kernel_rfl)) h0 bel lt0) (trodAll_cons_mk (Below.trod laidOut (by kernel_rfl) (of_decide_eq_true (by kernel_rfl)) h1 bel lt1) trodAll_mk0)), rfl, bel.frame _, fun h => by cases h⟩

theorem valUnlike_holds : Rows.ValUnlikeSaid :=
  OpenClaim.holds_of_wide 6 Try.f6 rfl rfl rfl rfl rfl rfl rfl ⟨rfl, rfl, rfl, rfl, rfl⟩ rfl rfl rfl rfl rfl (by kernel_rfl) Try.func6 (by kernel_rfl)
    (of_decide_eq_true (by kernel_rfl)) (by unfold Func.isWrapper; first | (rw [if_pos (by decide +kernel)]; kernel_rfl) | (rw [if_neg (by decide +kernel)]; exact ⟨rfl, rfl⟩))
    (fun os started H enc _ => valUnlike_lifted os started H enc)
#print axioms valUnlike_holds

end Go.Proofs.Ytdeobbgkfhnhlaa
