/- Proved here: for every key, all starts and places XctrApart returns true and leaves its arguments as they were (of one key no two blocks of one stream are the same, and no two streams have the same block at one place); no condition. -/
import Derived.Test.YtlkihbmkekadeaaDoorXAc
import Derived.Test.YtlkihbmkekadeaaDoorL13
namespace Go.Proofs.YtlkihbmkekadeaaDoor
open Go.ChangeShapes Go.WideShapes Go.ChangeAt Go.RowKit Go.Joins Ab
set_option maxRecDepth 20000
theorem a16_cells {H : Type} {enc : TypeId × Value → H} {W : World} {sp : Nat → Bool} {hd : Bool} {m : Nat} {cs : List Value} {x : DataW H × List MemPlace} (h : DataW.trod enc Tryd.prog W 0 sp hd m 31 cs = some x) : ∃ f : Nat → Int, cs = ar8 16 f ∧ ∀ i, i < 16 → R8 (f i) := by
  obtain ⟨xs, m1, _, ex, hc, hl, hel⟩ := DataW.trod_array Tryd.underlying31 h
  have c5 : Tryd.prog.cellsOf 5 = 1 := by kernel_rfl
  have c16 : Tryd.prog.cellsOf 31 = 16 := by kernel_rfl
  rw [c16] at hc
  have key : ∀ r, r < 16 → ∃ z : Int, cs[r]? = some (.int .u8 z) ∧ R8 z := by
    intro r hr
    have hE := hel r hr
    rw [c5, Nat.mul_one, List.getElem?_eq_getElem (by omega)] at hE
    obtain ⟨z, e1, _, wz⟩ := DataW.trod_int Tryd.underlying5 hE
    have bz := bounds_u8 wz
    have h0 : ((cs.drop r).take 1)[0]? = some (.int .u8 z) := by rw [e1]; rfl
    exact ⟨z, by simpa using h0, by unfold R8; omega⟩
  refine ⟨fun i => match cs[i]? with | some (.int _ z) => z | _ => 0, eq_ar8 hc fun i hi => ?_, fun i hi => ?_⟩
  · obtain ⟨z, hz, _⟩ := key i hi
    rw [hz]
  · obtain ⟨z, hz, hr⟩ := key i hi
    simp only [hz]; exact hr

theorem apart13_cells {H : Type} {enc : TypeId × Value → H} {W : World} {m : Nat} {cs : List Value} {x : DataW H × List MemPlace} (h : DataW.trod enc Tryd.prog W 0 (fun _ => true) true m 65 cs = some x) :
    ∃ (f_0_0 : Nat → Int) (n_0_1 : Int) (f_1 : Nat → Int) (f_2 : Nat → Int) (n_3 : Int) (n_4 : Int), cs = (ar8 32 f_0_0 ++ [Value.int .u8 n_0_1]) ++ ar8 16 f_1 ++ ar8 16 f_2 ++ [Value.int .u64 n_3] ++ [Value.int .u64 n_4] ∧ (∀ i, i < 32 → R8 (f_0_0 i)) ∧ (Lit.int .u8 n_0_1).wf = true ∧ (∀ i, i < 16 → R8 (f_1 i)) ∧ (∀ i, i < 16 → R8 (f_2 i)) ∧ (Lit.int .u64 n_3).wf = true ∧ (Lit.int .u64 n_4).wf = true := by
  obtain ⟨xs, n, _, _, hc, hl, hel⟩ := DataW.trod_struct Tryd.underlying65 h
  have cN : Tryd.prog.cellsOf 65 = 67 := by kernel_rfl
  rw [cN] at hc
  have hl4 : xs.length = 5 := hl
  have h0 : DataW.trod enc Tryd.prog W 0 (fun _ => true) true n 51 ((cs.drop 0).take (Tryd.prog.cellsOf 51)) = xs[0]? := hel 0 _ rfl
  rw [List.getElem?_eq_getElem (by omega), show Tryd.prog.cellsOf 51 = 33 by kernel_rfl] at h0
  obtain ⟨f_0_0, n_0_1, e0, w_0_0_0, w_0_1_0⟩ := key13_cells h0
  have h1 : DataW.trod enc Tryd.prog W 0 (fun _ => true) true n 31 ((cs.drop 33).take (Tryd.prog.cellsOf 31)) = xs[1]? := hel 1 _ rfl
  rw [List.getElem?_eq_getElem (by omega), show Tryd.prog.cellsOf 31 = 16 by kernel_rfl] at h1
  obtain ⟨f_1, e1, w_1⟩ := a16_cells h1
  have h2 : DataW.trod enc Tryd.prog W 0 (fun _ => true) true n 31 ((cs.drop 49).take (Tryd.prog.cellsOf 31)) = xs[2]? := hel 2 _ rfl
  rw [List.getElem?_eq_getElem (by omega), show Tryd.prog.cellsOf 31 = 16 by kernel_rfl] at h2
  obtain ⟨f_2, e2, w_2⟩ := a16_cells h2
  have h3 : DataW.trod enc Tryd.prog W 0 (fun _ => true) true n 52 ((cs.drop 65).take (Tryd.prog.cellsOf 52)) = xs[3]? := hel 3 _ rfl
  rw [List.getElem?_eq_getElem (by omega), show Tryd.prog.cellsOf 52 = 1 by kernel_rfl] at h3
  obtain ⟨n_3, e3, _, w_3⟩ := DataW.trod_int Tryd.underlying52 h3
  have h4 : DataW.trod enc Tryd.prog W 0 (fun _ => true) true n 52 ((cs.drop 66).take (Tryd.prog.cellsOf 52)) = xs[4]? := hel 4 _ rfl
  rw [List.getElem?_eq_getElem (by omega), show Tryd.prog.cellsOf 52 = 1 by kernel_rfl] at h4
  obtain ⟨n_4, e4, _, w_4⟩ := DataW.trod_int Tryd.underlying52 h4
  refine ⟨f_0_0, n_0_1, f_1, f_2, n_3, n_4, ?_, w_0_0_0, w_0_1_0, w_1, w_2, w_3, w_4⟩
  have sp : cs = (cs.drop 0).take 33 ++ (cs.drop 33).take 16 ++ (cs.drop 49).take 16 ++ (cs.drop 65).take 1 ++ (cs.drop 66).take 1 := by
    have hz : cs.drop 67 = [] := List.drop_eq_nil_of_le (by omega)
    have t5 : cs.drop 67 = [] := hz
    have t4 : cs.drop 66 = (cs.drop 66).take 1 := by
      have := drop_cut cs 66 1
      rwa [t5, List.append_nil] at this
    have t3 : cs.drop 65 = ((cs.drop 65).take 1 ++ (cs.drop 66).take 1) := by
      have := drop_cut cs 65 1
      rwa [t4] at this
    have t2 : cs.drop 49 = ((cs.drop 49).take 16 ++ ((cs.drop 65).take 1 ++ (cs.drop 66).take 1)) := by
      have := drop_cut cs 49 16
      rwa [t3] at this
    have t1 : cs.drop 33 = ((cs.drop 33).take 16 ++ ((cs.drop 49).take 16 ++ ((cs.drop 65).take 1 ++ (cs.drop 66).take 1))) := by
      have := drop_cut cs 33 16
      rwa [t2] at this
    have t0 : cs.drop 0 = ((cs.drop 0).take 33 ++ ((cs.drop 33).take 16 ++ ((cs.drop 49).take 16 ++ ((cs.drop 65).take 1 ++ (cs.drop 66).take 1)))) := by
      have := drop_cut cs 0 33
      rwa [t1] at this
    rw [List.drop_zero] at t0
    refine t0.trans ?_
    simp only [List.append_assoc, List.drop_zero]
  rw [sp, e0, e1, e2, e3, e4]
theorem apart13_of_trod {H : Type} {enc : TypeId × Value → H} {W : World} {base : Nat} {v : Value} {d : DataW H} {p : List MemPlace} (hv : Value.okWide Tryd.prog W .any base 65 v)
    (h : DataW.Trod enc Tryd.prog W 0 (fun _ => true) true 65 v d p) : ∃ (f_0_0 : Nat → Int) (n_0_1 : Int) (f_1 : Nat → Int) (f_2 : Nat → Int) (n_3 : Int) (n_4 : Int), v = .agg ((ar8 32 f_0_0 ++ [Value.int .u8 n_0_1]) ++ ar8 16 f_1 ++ ar8 16 f_2 ++ [Value.int .u64 n_3] ++ [Value.int .u64 n_4]).toArray ∧ (∀ i, i < 32 → R8 (f_0_0 i)) ∧ (Lit.int .u8 n_0_1).wf = true ∧ (∀ i, i < 16 → R8 (f_1 i)) ∧ (∀ i, i < 16 → R8 (f_2 i)) ∧ (Lit.int .u64 n_3).wf = true ∧ (Lit.int .u64 n_4).wf = true := by
  obtain ⟨cs, rfl⟩ : ∃ cs, v = .agg cs := by
    unfold Value.okWide at hv
    rw [Tryd.underlying65] at hv
    cases v <;> simp_all
  obtain ⟨fuel, hf⟩ := h
  obtain ⟨f_0_0, n_0_1, f_1, f_2, n_3, n_4, e, hh⟩ := apart13_cells hf
  simp only [Value.cells] at e
  exact ⟨f_0_0, n_0_1, f_1, f_2, n_3, n_4, by rw [← e], hh⟩

set_option linter.unusedVariables false in
set_option maxRecDepth 100000 in
theorem xctrApart_lifted (os : Os) (started : os.Started) (H : Type) (enc : TypeId × Value → H) :
    ReturnsInHanded {} Tryd.checked os 13 .any (fun w args => (Rows.xctrApartSpec.pre enc Tryd.prog Tryd.f13 [] false w args ∧ laidMetH Tryd.prog lay1 w) ∧ sizedMet enc Tryd.prog Tryd.f13 (OpenSpec.ofChange Rows.xctrApartSpec) false w args)
      (Rows.xctrApartSpec.post enc Tryd.prog Tryd.f13 false true false false) := by
  refine returnsInHanded_of_change_and (C := Tryd.checked) (X := fun w _ => laidMetH Tryd.prog lay1 w) (fun _ _ _ hh h => h.of_heap hh) own started (by kernel_rfl) Tryd.func13
    (ChangeSpec.witness_shaped (enc := enc) (C := Tryd.checked) (os := os) (X := fun w _ => laidMetH Tryd.prog lay1 w) false (World.doorLaid Tryd.prog 400 os) #[.agg #[.int .u8 0, .int .u8 0, .int .u8 0, .int .u8 0, .int .u8 0, .int .u8 0, .int .u8 0, .int .u8 0, .int .u8 0, .int .u8 0, .int .u8 0, .int .u8 0, .int .u8 0, .int .u8 0, .int .u8 0, .int .u8 0, .int .u8 0, .int .u8 0, .int .u8 0, .int .u8 0, .int .u8 0, .int .u8 0, .int .u8 0, .int .u8 0, .int .u8 0, .int .u8 0, .int .u8 0, .int .u8 0, .int .u8 0, .int .u8 0, .int .u8 0, .int .u8 0, .int .u8 0, .int .u8 0, .int .u8 0, .int .u8 0, .int .u8 0, .int .u8 0, .int .u8 0, .int .u8 0, .int .u8 0, .int .u8 0, .int .u8 0, .int .u8 0, .int .u8 0, .int .u8 0, .int .u8 0, .int .u8 0, .int .u8 0, .int .u8 0, .int .u8 0, .int .u8 0, .int .u8 0, .int .u8 0, .int .u8 0, .int .u8 0, .int .u8 0, .int .u8 0, .int .u8 0, .int .u8 0, .int .u8 0, .int .u8 0, .int .u8 0, .int .u8 0, .int .u8 0, .int .u64 0, .int .u64 0]] 8 rfl (World.shaped_of_RefB (by kernel_rfl) (by kernel_rfl)) (by kernel_rfl) (by kernel_rfl) (by kernel_rfl) (door_met os _)) ?_
  intro W base args ds gs before hval0 hW _ _ hL _
  have hval : ∀ (j : Nat) t v, Tryd.f13.params[j]? = some t → args[j]? = some v → Value.okWide Tryd.prog W .any base t v := hval0
  have hW' := hW
  obtain ⟨p, q, hA0, hV, rfl, hfz, hnd⟩ := hW
  have hA : DataW.TrodAll enc Tryd.prog W 0 (fun _ => true) true Tryd.f13.params.toList args.toList ds p := hA0
  rw [Tryd.params13] at hA hval
  obtain ⟨v0, vs0, d0, ds0, p0, q0, hargs, rfl, rfl, h0, r0⟩ := trodAll_cons hA
  obtain ⟨rfl, rfl, rfl⟩ := trodAll_nil r0
  obtain rfl : args = #[v0] := by cases args; simp_all
  obtain ⟨rfl, rfl⟩ := trodVars_none hV
  have lt0 : ∀ x ∈ p0, x.block < W.heap.size := by obtain ⟨m, hm⟩ := h0; exact DataW.trod_lt m _ _ _ hm
  obtain ⟨f0_0_0, n0_0_1, f0_1, f0_2, n0_3, n0_4, rfl, w0_0_0, w0_0_1, w0_1, w0_2, w0_3, w0_4⟩ := apart13_of_trod (hval 0 65 v0 rfl rfl) h0
  clear hA0 hval0
  refine (CallOK.plainly ((fun z hz sz hs p hp q hq i hi j hj => xapart_ok z hz sz hs p hp q hq i hi j hj) f0_0_0 w0_0_0 n0_0_1 (bounds_u8 w0_0_1) f0_1 w0_1 f0_2 w0_2 n0_3 (bounds_u64 w0_3) n0_4 (bounds_u64 w0_4)) (rhoOf [⟨0, 0, 1⟩, ⟨1, 0, 1⟩]) W [.agg ((ar8 32 f0_0_0 ++ [Value.int .u8 n0_0_1]) ++ ar8 16 f0_1 ++ ar8 16 f0_2 ++ [Value.int .u64 n0_3] ++ [Value.int .u64 n0_4]).toArray] (relL_cons (.ex _) relL_nil) (BAll.mem (ρ := rhoOf [⟨0, 0, 1⟩, ⟨1, 0, 1⟩]) (W := W) ⟨(glob_view rfl (laid_mix hL)), ⟨(glob_view rfl (laid_unm hL)), trivial⟩⟩) (wr_of (by kernel_rfl)) (globs (G := [(0, 0), (1, 1)]) (by kernel_rfl))).mono fun e W' ⟨he, bel⟩ => ?_
  subst he
  exact ⟨_, rfl, _, _, _, [], _, [], hW', trodAll_mk1 (shut_bool Tryd.underlying4 _), (trodAll_cons_mk (Below.trod laidOut (by kernel_rfl) (of_decide_eq_true (by kernel_rfl)) h0 bel lt0) trodAll_mk0), rfl, bel.frame _, fun h => by cases h⟩

theorem xctrApart_holds : Rows.XctrApartSaid :=
  OpenClaim.holds_of_wide 13 Tryd.f13 rfl rfl rfl rfl rfl rfl rfl ⟨rfl, rfl, rfl, rfl, rfl⟩ rfl rfl rfl rfl rfl (by kernel_rfl) Tryd.func13 (by kernel_rfl)
    (of_decide_eq_true (by kernel_rfl)) (by unfold Func.isWrapper; first | (rw [if_pos (by decide +kernel)]; kernel_rfl) | (rw [if_neg (by decide +kernel)]; exact ⟨rfl, rfl⟩))
    (fun os started H enc _ => xctrApart_lifted os started H enc)
theorem xctrApart_card : Rows.XctrApartCardSaid :=
  Claim7.holds_tied_plain_at .later [] [.data, .data] true _ false
    xctrApart_holds (fun _ h => by cases h) (by kernel_rfl) (fun _ h => by cases h) xctrApart_row_tie rfl ⟨rfl, rfl⟩ (by kernel_rfl) rfl
    (fun f fn hf hfn => by
      obtain rfl : f = 13 := Option.some.inj ((show Tryd.prog.funcNamed "wringer/wringerlaw13.XctrApart" = some 13 by kernel_rfl).symm.trans hf) |>.symm
      obtain rfl : fn = Tryd.f13 := (Option.some.inj (Tryd.func13.symm.trans hfn)).symm
      exact ⟨by kernel_rfl, fun j t ht => by
        rw [Tryd.params13] at ht
        have hm : t ∈ [65] := by simpa using Array.mem_of_getElem? ht
        have hall : ([65].all fun u => !Tryd.prog.wantsStandIn u) = true := by kernel_rfl
        exact (show Tryd.prog.wantsStandIn t = false by simpa using List.all_eq_true.1 hall t hm)⟩)
    (by kernel_rfl)
#print axioms xctrApart_card

end Go.Proofs.YtlkihbmkekadeaaDoor
