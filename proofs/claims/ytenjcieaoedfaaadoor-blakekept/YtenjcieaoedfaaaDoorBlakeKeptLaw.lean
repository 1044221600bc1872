/- Proved here: for every size, key and row of rows of bytes BlakeKept returns true and leaves its argument as it was (what is written, and a key, is not kept); no condition. -/
import Derived.Test.YtenjcieaoedfaaaDoorW4
import Derived.Test.YtenjcieaoedfaaaDoorL6r
namespace Go.Proofs.YtenjcieaoedfaaaDoor
open Go.ChangeShapes Go.WideShapes Go.ChangeAt Go.RowKit Go.Joins Ab
set_option linter.unusedVariables false in
set_option maxRecDepth 100000 in
theorem blakeKept_lifted (os : Os) (started : os.Started) (H : Type) (enc : TypeId × Value → H) :
    ReturnsInHanded {} Tryd.checked os 4 .any (fun w args => (Rows.blakeKeptSpec.pre enc Tryd.prog Tryd.f4 [] false w args ∧ laidMetH Tryd.prog lay1 w) ∧ sizedMet enc Tryd.prog Tryd.f4 (OpenSpec.ofChange Rows.blakeKeptSpec) false w args)
      (Rows.blakeKeptSpec.post enc Tryd.prog Tryd.f4 false true false false) := by
  refine returnsInHanded_of_change_and (C := Tryd.checked) (X := fun w _ => laidMetH Tryd.prog lay1 w) (fun _ _ _ hh h => h.of_heap hh) own started (by kernel_rfl) Tryd.func4
    (ChangeSpec.witness_shaped (enc := enc) (C := Tryd.checked) (os := os) (X := fun w _ => laidMetH Tryd.prog lay1 w) false (World.doorLaid Tryd.prog 400 os) #[.agg #[.int .i64 0, .slice none 0 0, .slice none 0 0]] 8 rfl (World.shaped_of_RefB (by kernel_rfl) (by kernel_rfl)) (by kernel_rfl) (by kernel_rfl) (by kernel_rfl) (door_met os _)) ?_
  intro W base args ds gs before hval0 hW _ _ hL _
  have hval : ∀ (j : Nat) t v, Tryd.f4.params[j]? = some t → args[j]? = some v → Value.okWide Tryd.prog W .any base t v := hval0
  have hW' := hW
  obtain ⟨p, q, hA0, hV, rfl, hfz, hnd⟩ := hW
  have hA : DataW.TrodAll enc Tryd.prog W 0 (fun _ => true) true Tryd.f4.params.toList args.toList ds p := hA0
  rw [Tryd.params4] at hA hval
  obtain ⟨v0, vs0, d0, ds0, p0, q0, hargs, rfl, rfl, h0, r0⟩ := trodAll_cons hA
  obtain ⟨rfl, rfl, rfl⟩ := trodAll_nil r0
  obtain rfl : args = #[v0] := by cases args; simp_all
  obtain ⟨rfl, rfl⟩ := trodVars_none hV
  have lt0 : ∀ x ∈ p0, x.block < W.heap.size := by obtain ⟨m, hm⟩ := h0; exact DataW.trod_lt m _ _ _ hm
  obtain ⟨n0_0, a0_1, len0_1, cap0_1, bs0_1, a0_2, len0_2, cap0_2, rs0_2, rfl, w0_0, hb0_1, hl0_1, hs0_1, hb0_2, hl0_2, hs0_2⟩ := parts06_of_trod (hval 0 25 v0 rfl rfl) h0
  clear hA0 hval0
  refine (CallOK.plainlyO ((fun size _ key _ _ rs _ hl => bkept_ok size key rs hl) n0_0 (bounds_i64 w0_0) bs0_1 hb0_1 hl0_1 rs0_2 hb0_2 hl0_2) (rhoOf [locOf (.slice a0_1 len0_1 cap0_1), locR (.slice a0_2 len0_2 cap0_2), ⟨0, 0, 1⟩, ⟨1, 0, 1⟩]) W [.agg ([Value.int .i64 n0_0] ++ [Value.slice a0_1 len0_1 cap0_1] ++ [Value.slice a0_2 len0_2 cap0_2]).toArray] (relL_cons (rel_agg (relL_app (relL_app (relL_ex _ [Value.int .i64 n0_0]) (relL_cons (hs0_1.rel rfl) relL_nil)) (relL_cons (hs0_2.rel rfl) relL_nil))) relL_nil) (BAll.mem (ρ := rhoOf [locOf (.slice a0_1 len0_1 cap0_1), locR (.slice a0_2 len0_2 cap0_2), ⟨0, 0, 1⟩, ⟨1, 0, 1⟩]) (W := W) ⟨(hs0_1.view rfl), ⟨(hs0_2.view rfl), ⟨(glob_view rfl (laid_fst hL)), ⟨(glob_view rfl (laid_rws hL)), trivial⟩⟩⟩⟩) (wr_of (by kernel_rfl)) (globs (G := [(0, 2), (1, 3)]) (by kernel_rfl)) (OAll.mem (ρ := rhoOf [locOf (.slice a0_1 len0_1 cap0_1), locR (.slice a0_2 len0_2 cap0_2), ⟨0, 0, 1⟩, ⟨1, 0, 1⟩]) (W := W) ⟨trivial, ⟨(hs0_2.old rfl), ⟨trivial, ⟨trivial, trivial⟩⟩⟩⟩)).mono fun e W' ⟨he, bel⟩ => ?_
  subst he
  exact ⟨_, rfl, _, _, _, [], _, [], hW', trodAll_mk1 (shut_bool Tryd.underlying4 _), (trodAll_cons_mk (Below.trod laidOut (by kernel_rfl) (of_decide_eq_true (by kernel_rfl)) h0 bel lt0) trodAll_mk0), rfl, bel.frame _, fun h => by cases h⟩

theorem blakeKept_holds : Rows.BlakeKeptSaid :=
  OpenClaim.holds_of_wide 4 Tryd.f4 rfl rfl rfl rfl rfl rfl rfl ⟨rfl, rfl, rfl, rfl, rfl⟩ rfl rfl rfl rfl rfl (by kernel_rfl) Tryd.func4 (by kernel_rfl)
    (of_decide_eq_true (by kernel_rfl)) (by unfold Func.isWrapper; first | (rw [if_pos (by decide +kernel)]; kernel_rfl) | (rw [if_neg (by decide +kernel)]; exact ⟨rfl, rfl⟩))
    (fun os started H enc _ => blakeKept_lifted os started H enc)
theorem blakeKept_card : Rows.BlakeKeptCardSaid :=
  Claim7.holds_tied_plain_at .later [] [.data, .data] true _ false
    blakeKept_holds (fun _ h => by cases h) (by kernel_rfl) (fun _ h => by cases h) blakeKept_row_tie rfl ⟨rfl, rfl⟩ (by kernel_rfl) rfl
    (fun f fn hf hfn => by
      obtain rfl : f = 4 := Option.some.inj ((show Tryd.prog.funcNamed "wringer/wringerlaw06.BlakeKept" = some 4 by kernel_rfl).symm.trans hf) |>.symm
      obtain rfl : fn = Tryd.f4 := (Option.some.inj (Tryd.func4.symm.trans hfn)).symm
      exact ⟨by kernel_rfl, fun j t ht => by
        rw [Tryd.params4] at ht
        have hm : t ∈ [25] := by simpa using Array.mem_of_getElem? ht
        have hall : ([25].all fun u => !Tryd.prog.wantsStandIn u) = true := by kernel_rfl
        exact (show Tryd.prog.wantsStandIn t = false by simpa using List.all_eq_true.1 hall t hm)⟩)
    (by kernel_rfl)
#print axioms blakeKept_card

end Go.Proofs.YtenjcieaoedfaaaDoor
