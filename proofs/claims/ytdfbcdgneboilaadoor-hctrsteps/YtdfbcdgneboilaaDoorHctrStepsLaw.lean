/- Proved here: for every text HctrSteps returns true and leaves its argument as it was (a message enciphered is a hash, a block, a stream and a hash of the layers below); no condition. -/
import Derived.Test.YtdfbcdgneboilaaDoorH9
import Derived.Test.YtdfbcdgneboilaaDoorL18
namespace Go.Proofs.YtdfbcdgneboilaaDoor
open Go.ChangeShapes Go.WideShapes Go.ChangeAt Go.RowKit Go.Joins Ab
theorem hctrSteps_any (z : Nat → Int) (hz : ∀ i, i < 32 → R8 (z i)) (sz : Int) (hs : 0 ≤ sz ∧ sz ≤ 255) (t : List Int) (ht : ∀ x ∈ t, R8 x) (_ : t.length ≤ 9223372036854775807) (m : List Int) (hm : ∀ x ∈ m, R8 x) (_ : m.length ≤ 9223372036854775807) : CallOK Tryd.prog (fun g => [(0, 2), (1, 3)].lookup g) 6 [.agg ((((ar8 32 z).map .ex ++ [Value.int .u8 sz].map .ex) ++ [.sv 0 0 t.length]) ++ [.sv 1 0 m.length])] [(0, .view (t.map (Value.int .u8))), (1, .view (m.map (Value.int .u8))), (2, .view (mixL.map (Value.int .u8))), (3, .view (unmL.map (Value.int .u8)))] { val := .ex (.bool true) } := by
  have h := hsteps_ok z hz sz hs t m ht hm
  unfold textV at h
  rw [List.append_assoc, List.append_assoc]
  exact h
set_option linter.unusedVariables false in
set_option maxRecDepth 100000 in
theorem hctrSteps_lifted (os : Os) (started : os.Started) (H : Type) (enc : TypeId × Value → H) :
    ReturnsInHanded {} Tryd.checked os 6 .any (fun w args => (Rows.hctrStepsSpec.pre enc Tryd.prog Tryd.f6 [] false w args ∧ laidMetH Tryd.prog lay1 w) ∧ sizedMet enc Tryd.prog Tryd.f6 (OpenSpec.ofChange Rows.hctrStepsSpec) false w args)
      (Rows.hctrStepsSpec.post enc Tryd.prog Tryd.f6 false true false false) := by
  refine returnsInHanded_of_change_and (C := Tryd.checked) (X := fun w _ => laidMetH Tryd.prog lay1 w) (fun _ _ _ hh h => h.of_heap hh) own started (by kernel_rfl) Tryd.func6
    (ChangeSpec.witness_shaped (enc := enc) (C := Tryd.checked) (os := os) (X := fun w _ => laidMetH Tryd.prog lay1 w) false (World.doorLaid Tryd.prog 400 os) #[.agg #[.int .u8 0, .int .u8 0, .int .u8 0, .int .u8 0, .int .u8 0, .int .u8 0, .int .u8 0, .int .u8 0, .int .u8 0, .int .u8 0, .int .u8 0, .int .u8 0, .int .u8 0, .int .u8 0, .int .u8 0, .int .u8 0, .int .u8 0, .int .u8 0, .int .u8 0, .int .u8 0, .int .u8 0, .int .u8 0, .int .u8 0, .int .u8 0, .int .u8 0, .int .u8 0, .int .u8 0, .int .u8 0, .int .u8 0, .int .u8 0, .int .u8 0, .int .u8 0, .int .u8 0, .slice none 0 0, .slice none 0 0]] 8 rfl (World.shaped_of_RefB (by kernel_rfl) (by kernel_rfl)) (by kernel_rfl) (by kernel_rfl) (by kernel_rfl) (door_met os _)) ?_
  intro W base args ds gs before hval0 hW _ _ hL _
  have hval : ∀ (j : Nat) t v, Tryd.f6.params[j]? = some t → args[j]? = some v → Value.okWide Tryd.prog W .any base t v := hval0
  have hW' := hW
  obtain ⟨p, q, hA0, hV, rfl, hfz, hnd⟩ := hW
  have hA : DataW.TrodAll enc Tryd.prog W 0 (fun _ => true) true Tryd.f6.params.toList args.toList ds p := hA0
  rw [Tryd.params6] at hA hval
  obtain ⟨v0, vs0, d0, ds0, p0, q0, hargs, rfl, rfl, h0, r0⟩ := trodAll_cons hA
  obtain ⟨rfl, rfl, rfl⟩ := trodAll_nil r0
  obtain rfl : args = #[v0] := by cases args; simp_all
  obtain ⟨rfl, rfl⟩ := trodVars_none hV
  have lt0 : ∀ x ∈ p0, x.block < W.heap.size := by obtain ⟨m, hm⟩ := h0; exact DataW.trod_lt m _ _ _ hm
  obtain ⟨f0_0, n0_1, a0_2, len0_2, cap0_2, bs0_2, a0_3, len0_3, cap0_3, bs0_3, rfl, w0_0, w0_1, hb0_2, hl0_2, hs0_2, hb0_3, hl0_3, hs0_3⟩ := text18_of_trod (hval 0 36 v0 rfl rfl) h0
  clear hA0 hval0
  refine (CallOK.plainly (hctrSteps_any f0_0 w0_0 n0_1 (bounds_u8 w0_1) bs0_2 hb0_2 hl0_2 bs0_3 hb0_3 hl0_3) (rhoOf [locOf (.slice a0_2 len0_2 cap0_2), locOf (.slice a0_3 len0_3 cap0_3), ⟨0, 0, 1⟩, ⟨1, 0, 1⟩]) W [.agg (ar8 32 f0_0 ++ [Value.int .u8 n0_1] ++ [Value.slice a0_2 len0_2 cap0_2] ++ [Value.slice a0_3 len0_3 cap0_3]).toArray] (relL_cons (rel_agg (relL_app (relL_app (relL_app (relL_ex _ (ar8 32 f0_0)) (relL_ex _ [Value.int .u8 n0_1])) (relL_cons (hs0_2.rel rfl) relL_nil)) (relL_cons (hs0_3.rel rfl) relL_nil))) relL_nil) (BAll.mem (ρ := rhoOf [locOf (.slice a0_2 len0_2 cap0_2), locOf (.slice a0_3 len0_3 cap0_3), ⟨0, 0, 1⟩, ⟨1, 0, 1⟩]) (W := W) ⟨(hs0_2.view rfl), ⟨(hs0_3.view rfl), ⟨(glob_view rfl (laid_mix hL)), ⟨(glob_view rfl (laid_unm hL)), trivial⟩⟩⟩⟩) (wr_of (by kernel_rfl)) (globs (G := [(0, 2), (1, 3)]) (by kernel_rfl))).mono fun e W' ⟨he, bel⟩ => ?_
  subst he
  exact ⟨_, rfl, _, _, _, [], _, [], hW', trodAll_mk1 (shut_bool Tryd.underlying4 _), (trodAll_cons_mk (Below.trod laidOut (by kernel_rfl) (of_decide_eq_true (by kernel_rfl)) h0 bel lt0) trodAll_mk0), rfl, bel.frame _, fun h => by cases h⟩

theorem hctrSteps_holds : Rows.HctrStepsSaid :=
  OpenClaim.holds_of_wide 6 Tryd.f6 rfl rfl rfl rfl rfl rfl rfl ⟨rfl, rfl, rfl, rfl, rfl⟩ rfl rfl rfl rfl rfl (by kernel_rfl) Tryd.func6 (by kernel_rfl)
    (of_decide_eq_true (by kernel_rfl)) (by unfold Func.isWrapper; first | (rw [if_pos (by decide +kernel)]; kernel_rfl) | (rw [if_neg (by decide +kernel)]; exact ⟨rfl, rfl⟩))
    (fun os started H enc _ => hctrSteps_lifted os started H enc)
theorem hctrSteps_card : Rows.HctrStepsCardSaid :=
  Claim7.holds_tied_plain_at .later [] [.data, .data] true _ false
    hctrSteps_holds (fun _ h => by cases h) (by kernel_rfl) (fun _ h => by cases h) hctrSteps_row_tie rfl ⟨rfl, rfl⟩ (by kernel_rfl) rfl
    (fun f fn hf hfn => by
      obtain rfl : f = 6 := Option.some.inj ((show Tryd.prog.funcNamed "wringer/wringerlaw18.HctrSteps" = some 6 by kernel_rfl).symm.trans hf) |>.symm
      obtain rfl : fn = Tryd.f6 := (Option.some.inj (Tryd.func6.symm.trans hfn)).symm
      exact ⟨by kernel_rfl, fun j t ht => by
        rw [Tryd.params6] at ht
        have hm : t ∈ [36] := by simpa using Array.mem_of_getElem? ht
        have hall : ([36].all fun u => !Tryd.prog.wantsStandIn u) = true := by kernel_rfl
        exact (show Tryd.prog.wantsStandIn t = false by simpa using List.all_eq_true.1 hall t hm)⟩)
    (by kernel_rfl)
#print axioms hctrSteps_card

end Go.Proofs.YtdfbcdgneboilaaDoor
