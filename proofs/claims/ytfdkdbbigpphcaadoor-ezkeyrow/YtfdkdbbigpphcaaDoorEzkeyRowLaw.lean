/- Proved here: for every key, two numbers, a block and what is asked besides EzkeyRow returns true and leaves its arguments as they were (eight numbers on an offset has one doubling more); no condition. -/
import Derived.Test.YtfdkdbbigpphcaaDoorJ9
import Derived.Test.YtfdkdbbigpphcaaDoorL15
namespace Go.Proofs.YtfdkdbbigpphcaaDoor
open Go.ChangeShapes Go.WideShapes Go.ChangeAt Go.RowKit Go.Joins Ab
theorem ezkeyRow_any (bs : List Int) (h8 : All8 bs) (_ : bs.length ≤ 9223372036854775807) (j : Int) (_ : -9223372036854775808 ≤ j ∧ j ≤ 9223372036854775807) (i : Int) (_ : -9223372036854775808 ≤ i ∧ i ≤ 9223372036854775807) (f : Nat → Int) (hf : ∀ i, i < 16 → R8 (f i)) (u : Int) (hu : 0 ≤ u ∧ u ≤ 4294967295) : CallOK Tryd.prog (fun g => [(1, 1), (2, 2), (0, 3), (3, 4)].lookup g) 9 [askV bs.length j i f, .ex (.int .u32 u)] [(0, .view (bs.map (Value.int .u8))), (1, .view (mixL.map (Value.int .u8))), (2, .view (unmL.map (Value.int .u8))), (3, .view (kfirst.map (Value.int .u64))), (4, .view krcs)] { val := .ex (.bool true) } := by
  obtain ⟨u, rfl⟩ := Int.eq_ofNat_of_zero_le hu.1
  unfold askV
  rw [ar8_el f hf]; exact row_ok rfl rfl rfl bs h8 j i (Ab.el f) u (by omega)
set_option linter.unusedVariables false in
set_option maxRecDepth 100000 in
theorem ezkeyRow_lifted (os : Os) (started : os.Started) (H : Type) (enc : TypeId × Value → H) :
    ReturnsInHanded {} Tryd.checked os 9 .any (fun w args => (Rows.ezkeyRowSpec.pre enc Tryd.prog Tryd.f9 [] false w args ∧ laidMetH Tryd.prog lay1 w) ∧ sizedMet enc Tryd.prog Tryd.f9 (OpenSpec.ofChange Rows.ezkeyRowSpec) false w args)
      (Rows.ezkeyRowSpec.post enc Tryd.prog Tryd.f9 false true false false) := by
  refine returnsInHanded_of_change_and (C := Tryd.checked) (X := fun w _ => laidMetH Tryd.prog lay1 w) (fun _ _ _ hh h => h.of_heap hh) own started (by kernel_rfl) Tryd.func9
    (ChangeSpec.witness_shaped (enc := enc) (C := Tryd.checked) (os := os) (X := fun w _ => laidMetH Tryd.prog lay1 w) false (World.doorLaid Tryd.prog 400 os) #[.agg #[.slice none 0 0, .int .i64 0, .int .i64 0, .int .u8 0, .int .u8 0, .int .u8 0, .int .u8 0, .int .u8 0, .int .u8 0, .int .u8 0, .int .u8 0, .int .u8 0, .int .u8 0, .int .u8 0, .int .u8 0, .int .u8 0, .int .u8 0, .int .u8 0, .int .u8 0], .int .u32 0] 8 rfl (World.shaped_of_RefB (by kernel_rfl) (by kernel_rfl)) (by kernel_rfl) (by kernel_rfl) (by kernel_rfl) (door_met os _)) ?_
  intro W base args ds gs before hval0 hW _ _ hL _
  have hval : ∀ (j : Nat) t v, Tryd.f9.params[j]? = some t → args[j]? = some v → Value.okWide Tryd.prog W .any base t v := hval0
  have hW' := hW
  obtain ⟨p, q, hA0, hV, rfl, hfz, hnd⟩ := hW
  have hA : DataW.TrodAll enc Tryd.prog W 0 (fun _ => true) true Tryd.f9.params.toList args.toList ds p := hA0
  rw [Tryd.params9] at hA hval
  obtain ⟨v0, vs0, d0, ds0, p0, q0, hargs, rfl, rfl, h0, r0⟩ := trodAll_cons hA
  obtain ⟨v1, vs1, d1, ds1, p1, q1, rfl, rfl, rfl, h1, r1⟩ := trodAll_cons r0
  obtain ⟨rfl, rfl, rfl⟩ := trodAll_nil r1
  obtain rfl : args = #[v0, v1] := by cases args; simp_all
  obtain ⟨rfl, rfl⟩ := trodVars_none hV
  have lt0 : ∀ x ∈ p0, x.block < W.heap.size := by obtain ⟨m, hm⟩ := h0; exact DataW.trod_lt m _ _ _ hm
  have lt1 : ∀ x ∈ p1, x.block < W.heap.size := by obtain ⟨m, hm⟩ := h1; exact DataW.trod_lt m _ _ _ hm
  obtain ⟨a0_0, len0_0, cap0_0, bs0_0, n0_1, n0_2, f0_3, rfl, hb0_0, hl0_0, hs0_0, w0_1, w0_2, w0_3⟩ := asked15_of_trod (hval 0 45 v0 rfl rfl) h0
  obtain ⟨n1, rfl, hd1, hp1, wn1⟩ := open_int Tryd.underlying56 (hval 1 56 v1 rfl rfl) h1
  clear hA0 hval0
  refine (CallOK.plainly (ezkeyRow_any bs0_0 hb0_0 hl0_0 n0_1 (bounds_i64 w0_1) n0_2 (bounds_i64 w0_2) f0_3 w0_3 n1 (bounds_u32 wn1)) (rhoOf [locOf (.slice a0_0 len0_0 cap0_0), ⟨1, 0, 1⟩, ⟨2, 0, 1⟩, ⟨0, 0, 1⟩, ⟨3, 0, 1⟩]) W [.agg ([Value.slice a0_0 len0_0 cap0_0] ++ [Value.int .i64 n0_1] ++ [Value.int .i64 n0_2] ++ ar8 16 f0_3).toArray, .int .u32 n1] (relL_cons (rel_agg (relL_app (relL_app (relL_app (relL_cons (hs0_0.rel rfl) relL_nil) (relL_ex _ [Value.int .i64 n0_1])) (relL_ex _ [Value.int .i64 n0_2])) (relL_ex _ (ar8 16 f0_3)))) (relL_cons (.ex _) relL_nil)) (BAll.mem (ρ := rhoOf [locOf (.slice a0_0 len0_0 cap0_0), ⟨1, 0, 1⟩, ⟨2, 0, 1⟩, ⟨0, 0, 1⟩, ⟨3, 0, 1⟩]) (W := W) ⟨(hs0_0.view rfl), ⟨(glob_view rfl (laid_mix hL)), ⟨(glob_view rfl (laid_unm hL)), ⟨(glob_view rfl (laid_fst hL)), ⟨(glob_view rfl (laid_rws hL)), trivial⟩⟩⟩⟩⟩) (wr_of (by kernel_rfl)) (globs (G := [(1, 1), (2, 2), (0, 3), (3, 4)]) (by kernel_rfl))).mono fun e W' ⟨he, bel⟩ => ?_
  subst he
  exact ⟨_, rfl, _, _, _, [], _, [], hW', trodAll_mk1 (shut_bool Tryd.underlying4 _), (trodAll_cons_mk (Below.trod laidOut (by kernel_rfl) (of_decide_eq_true (by kernel_rfl)) h0 bel lt0) (trodAll_cons_mk (Below.trod laidOut (by kernel_rfl) (of_decide_eq_true (by kernel_rfl)) h1 bel lt1) trodAll_mk0)), rfl, bel.frame _, fun h => by cases h⟩

theorem ezkeyRow_holds : Rows.EzkeyRowSaid :=
  OpenClaim.holds_of_wide 9 Tryd.f9 rfl rfl rfl rfl rfl rfl rfl ⟨rfl, rfl, rfl, rfl, rfl⟩ rfl rfl rfl rfl rfl (by kernel_rfl) Tryd.func9 (by kernel_rfl)
    (of_decide_eq_true (by kernel_rfl)) (by unfold Func.isWrapper; first | (rw [if_pos (by decide +kernel)]; kernel_rfl) | (rw [if_neg (by decide +kernel)]; exact ⟨rfl, rfl⟩))
    (fun os started H enc _ => ezkeyRow_lifted os started H enc)
theorem ezkeyRow_card : Rows.EzkeyRowCardSaid :=
  Claim7.holds_tied_plain_at .later [] [.data, .data, .data, .data] true _ false
    ezkeyRow_holds (fun _ h => by cases h) (by kernel_rfl) (fun _ h => by cases h) ezkeyRow_row_tie rfl ⟨rfl, rfl⟩ (by kernel_rfl) rfl
    (fun f fn hf hfn => by
      obtain rfl : f = 9 := Option.some.inj ((show Tryd.prog.funcNamed "wringer/wringerlaw15.EzkeyRow" = some 9 by kernel_rfl).symm.trans hf) |>.symm
      obtain rfl : fn = Tryd.f9 := (Option.some.inj (Tryd.func9.symm.trans hfn)).symm
      exact ⟨by kernel_rfl, fun j t ht => by
        rw [Tryd.params9] at ht
        have hm : t ∈ [45, 56] := by simpa using Array.mem_of_getElem? ht
        have hall : ([45, 56].all fun u => !Tryd.prog.wantsStandIn u) = true := by kernel_rfl
        exact (show Tryd.prog.wantsStandIn t = false by simpa using List.all_eq_true.1 hall t hm)⟩)
    (by kernel_rfl)
#print axioms ezkeyRow_card

end Go.Proofs.YtfdkdbbigpphcaaDoor
