/- Proved here: for all blocks a and b and every row of keys TurnApart returns true and leaves its arguments as they were (by any keys, at most 20, no two blocks come to the same one), where the two tables of coefficients lie as the program's text lays them; no other condition. -/
import Derived.Test.YtejhnpgolpjleaaDoorUndone
import Derived.Test.YtejhnpgolpjleaaDoorKeysArg
namespace Go.Proofs.YtejhnpgolpjleaaDoor
open Go.ChangeShapes Go.WideShapes Go.ChangeAt Go.RowKit

theorem rnd_inj {f g k : Nat → Nat} (hf : Byt f) (hg : Byt g) (h : ∀ i, i < 16 → rnd f k i = rnd g k i) (i : Nat) (hi : i < 16) : f i = g i := by
  rw [← unr_rnd (k := k) hf i hi, ← unr_rnd (k := k) hg i hi]
  exact unr_congr h (fun _ _ => rfl) i hi
theorem rnds_congr {f g : Nat → Nat} {ks : Nat → Nat → Nat} (h : ∀ i, i < 16 → f i = g i) : ∀ n i, i < 16 → rnds f ks n i = rnds g ks n i
  | 0 => h
  | n + 1 => rnd_congr (rnds_congr h n) (fun _ _ => rfl)
theorem rnds_inj {f g : Nat → Nat} {ks : Nat → Nat → Nat} (hf : Byt f) (hg : Byt g) (hk : ∀ i, Byt (ks i)) : ∀ n, (∀ i, i < 16 → rnds f ks n i = rnds g ks n i) → ∀ i, i < 16 → f i = g i
  | 0 => fun h => h
  | n + 1 => fun h => rnds_inj hf hg hk n (rnd_inj (rnds_byt hf hk n) (rnds_byt hg hk n) h)
theorem apart_far (X Y : List Value) (a : Option Addr) (n cap : Nat) (hn : 20 < n) (w : World) : Calls Tryd.prog 9 #[.agg X.toArray, .agg Y.toArray, .slice a n cap] w fun e w' => e = .returned (.bool true) ∧ Below w.heap.size w w' := by
  have h1 : (20 : Int) < n := by omega
  go_enter Tryd.func9, Tryd.ntmps9
  go_wp2
  go_ret
  exact ⟨rfl, below_alloc (below_alloc (Below.refl _ _) _) _⟩
set_option linter.unusedSimpArgs false in
set_option maxRecDepth 100000 in
set_option maxHeartbeats 8000000 in
theorem apart_core (X Y A B : List Value) (hX : X.length = 16) (hY : Y.length = 16) (a : Option Addr) (n cap : Nat) (hn : n ≤ 20) (e : Bool) (w : World)
    (cT : Hid (∀ w', Below w.heap.size w w' → Calls Tryd.prog 11 #[] w' fun e w'' => (∃ g, e = .returned (.pointer (some ⟨g, 0, none⟩)) ∧ IsTab w'' g) ∧ Below w'.heap.size w' w''))
    (cA : Hid (∀ w', Below w.heap.size w w' → Calls Tryd.prog 18 #[] w' fun e w'' => e = .returned (.bool true) ∧ Below w'.heap.size w' w''))
    (hE1 : ∀ w, (Op.equalIn 10000 22 (.agg A.toArray) (.agg B.toArray)).run Tryd.prog w = .ok e w)
    (hE2 : ∀ w, (Op.equalIn 10000 22 (.agg X.toArray) (.agg Y.toArray)).run Tryd.prog w = .ok e w)
    (cR : Hid (∀ g w', IsTab w' g → Below w.heap.size w w' → Calls Tryd.prog 23 #[.pointer (some ⟨g, 0, none⟩), .agg X.toArray, .slice a n cap] w' fun e w'' => e = .returned (.agg A.toArray) ∧ Below w'.heap.size w' w''))
    (cS : Hid (∀ g w', IsTab w' g → Below w.heap.size w w' → Calls Tryd.prog 23 #[.pointer (some ⟨g, 0, none⟩), .agg Y.toArray, .slice a n cap] w' fun e w'' => e = .returned (.agg B.toArray) ∧ Below w'.heap.size w' w'')) :
    Calls Tryd.prog 9 #[.agg X.toArray, .agg Y.toArray, .slice a n cap] w fun e w' => e = .returned (.bool true) ∧ Below w.heap.size w w' := by
  have iX : (Tryd.prog.info? 22).map (·.size) = some X.length := by rw [hX]; rfl
  have iY : (Tryd.prog.info? 22).map (·.size) = some Y.length := by rw [hY]; rfl
  have b0 : Below w.heap.size w ((w.alloc (.cells X.toArray 22)).alloc (.cells Y.toArray 22)) := below_alloc (below_alloc (Below.refl _ _) _) _
  have x0 : ((w.alloc (.cells X.toArray 22)).alloc (.cells Y.toArray 22)).rangeAt w.heap.size 0 X := fun j v hj => by
    rw [Nat.zero_add, cell_of_row _ w.heap.size _ _ _ _ (heap_alloc2_old _ _ _)]; simpa using hj
  have y0 : ((w.alloc (.cells X.toArray 22)).alloc (.cells Y.toArray 22)).rangeAt (w.heap.size + 1) 0 Y := fun j v hj => by
    rw [Nat.zero_add, cell_of_row _ (w.heap.size + 1) _ _ _ _ (heap_alloc2_new _ _ _)]; simpa using hj
  have K0 := hide (cT.out _ b0)
  have X0 := hide x0
  have Y0 := hide y0
  have h1 : ¬ ((20 : Int) < n) := by omega
  clear x0 y0
  cases e
  all_goals (
    go_enter Tryd.func9, Tryd.ntmps9
    go_wp2_with fail
    refine (K0.out).mono ?_
    rintro e W0 ⟨⟨g, rfl, ht⟩, b1⟩
    have HT := hide ht
    have BW := hide (below_two b0 b1)
    have rX : W0.rangeAt w.heap.size 0 X := range_later X0.out b1
    have rY : W0.rangeAt (w.heap.size + 1) 0 Y := range_later Y0.out b1
    have c1 := hide (fun w' (hb : Below W0.heap.size W0 w') => cR.out g w' (HT.out.later hb) (below_two BW.out hb))
    have c2 := hide (fun w' (hb : Below W0.heap.size W0 w') => cS.out g w' (HT.out.later hb) (below_two BW.out hb))
    have c3 := hide (fun w' (hb : Below W0.heap.size W0 w') => cA.out w' (below_two BW.out hb))
    clear b0 b1 ht K0 X0 Y0
    go_wp2_with fail
    refine wp_region_held_drew (S := fun w' => Below W0.heap.size W0 w' ∧ w'.rangeAt w.heap.size 0 X ∧ w'.rangeAt (w.heap.size + 1) 0 Y) (by kernel_rfl) ?_ (fun hHeld => ?_)
    · exact ⟨(Below.refl _ _).drew, rX, rY⟩
    refine wpAnyH_take (i := 0) (v := ?_) rfl (by kernel_rfl) (by kernel_rfl) (by kernel_rfl) (fun _ _ _ h => h) (Or.inl ⟨by rfl, ?_⟩) (by assumption) ?_
    rotate_left
    · (intro w hSw; (try dsimp only at hSw); simp only [List.getElem_toArray, List.getElem_cons_zero]; go_simp; try with_reducible rfl)
    simp only [Act.put, List.getElem_toArray, List.getElem_cons_zero, List.setIfInBounds_toArray, List.set_cons_zero, List.set_cons_succ]
    refine wpAnyH_take (i := 1) rfl (by kernel_rfl) (by kernel_rfl) (by kernel_rfl) (fun _ _ _ h => h) (yieldsIf_load_mid (by rfl) _ _ rfl _ _ rfl X _ (fun w hSw => hSw.2.1) Tryd.underlying22 rfl iX) (by assumption) ?_
    simp only [Act.put, List.getElem_toArray, List.getElem_cons_succ, List.getElem_cons_zero, List.setIfInBounds_toArray, List.set_cons_zero, List.set_cons_succ]
    refine wpAnyH_take (i := 2) (v := ?_) rfl (by kernel_rfl) (by kernel_rfl) (by kernel_rfl) (fun _ _ _ h => h) (Or.inl ⟨by rfl, ?_⟩) (by assumption) ?_
    rotate_left
    · (intro w hSw; (try dsimp only at hSw); simp only [List.getElem_toArray, List.getElem_cons_succ, List.getElem_cons_zero]; go_simp; try with_reducible rfl)
    simp only [Act.put, List.getElem_toArray, List.getElem_cons_succ, List.getElem_cons_zero, List.setIfInBounds_toArray, List.set_cons_zero, List.set_cons_succ]
    refine wpAnyH_take (i := 4) (v := ?_) rfl (by kernel_rfl) (by kernel_rfl) (by kernel_rfl) (fun _ _ _ h => h) (Or.inl ⟨by rfl, ?_⟩) (by assumption) ?_
    rotate_left
    · (intro w hSw; (try dsimp only at hSw); simp only [List.getElem_toArray, List.getElem_cons_succ, List.getElem_cons_zero]; go_simp; try with_reducible rfl)
    simp only [Act.put, List.getElem_toArray, List.getElem_cons_succ, List.getElem_cons_zero, List.setIfInBounds_toArray, List.set_cons_zero, List.set_cons_succ]
    refine wpAnyH_take (i := 5) rfl (by kernel_rfl) (by kernel_rfl) (by kernel_rfl) (fun _ _ _ h => h) (yieldsIf_load_mid (by rfl) _ _ rfl _ _ rfl Y _ (fun w hSw => hSw.2.2) Tryd.underlying22 rfl iY) (by assumption) ?_
    simp only [Act.put, List.getElem_toArray, List.getElem_cons_succ, List.getElem_cons_zero, List.setIfInBounds_toArray, List.set_cons_zero, List.set_cons_succ]
    refine wpAnyH_take (i := 6) (v := ?_) rfl (by kernel_rfl) (by kernel_rfl) (by kernel_rfl) (fun _ _ _ h => h) (Or.inl ⟨by rfl, ?_⟩) (by assumption) ?_
    rotate_left
    · (intro w hSw; (try dsimp only at hSw); simp only [List.getElem_toArray, List.getElem_cons_succ, List.getElem_cons_zero]; go_simp; try with_reducible rfl)
    simp only [Act.put, List.getElem_toArray, List.getElem_cons_succ, List.getElem_cons_zero, List.setIfInBounds_toArray, List.set_cons_zero, List.set_cons_succ]
    refine wpAnyH_take (i := 9) rfl (by kernel_rfl) (by kernel_rfl) (by kernel_rfl) (fun _ _ _ h => h) (yieldsIf_load_mid (by rfl) _ _ rfl _ _ rfl X _ (fun w hSw => hSw.2.1) Tryd.underlying22 rfl iX) (by assumption) ?_
    simp only [Act.put, List.getElem_toArray, List.getElem_cons_succ, List.getElem_cons_zero, List.setIfInBounds_toArray, List.set_cons_zero, List.set_cons_succ]
    refine wpAnyH_take (i := 10) rfl (by kernel_rfl) (by kernel_rfl) (by kernel_rfl) (fun _ _ _ h => h) (yieldsIf_load_mid (by rfl) _ _ rfl _ _ rfl Y _ (fun w hSw => hSw.2.2) Tryd.underlying22 rfl iY) (by assumption) ?_
    simp only [Act.put, List.getElem_toArray, List.getElem_cons_succ, List.getElem_cons_zero, List.setIfInBounds_toArray, List.set_cons_zero, List.set_cons_succ]
    refine wpAnyH_take (i := 11) (v := ?_) rfl (by kernel_rfl) (by kernel_rfl) (by kernel_rfl) (fun _ _ _ h => h) (Or.inl ⟨by rfl, ?_⟩) (by assumption) ?_
    rotate_left
    · (intro w hSw; (try dsimp only at hSw); simp only [List.getElem_toArray, List.getElem_cons_succ, List.getElem_cons_zero]; go_simp; try with_reducible rfl)
    simp only [Act.put, List.getElem_toArray, List.getElem_cons_succ, List.getElem_cons_zero, List.setIfInBounds_toArray, List.set_cons_zero, List.set_cons_succ]
    refine wpAnyH_ready (rs := [3]) (by kernel_rfl) (by simp) ?_
    refine AllReadyH.cons rfl (fun K hK => ?_) AllReadyH.nil
    simp only [List.getElem_toArray, List.getElem_cons_succ, List.getElem_cons_zero]
    go_simp
    refine (c1.out _ hHeld.1).mono ?_
    rintro e x1 ⟨rfl, bb1⟩
    go_wp2_with fail
    refine hK.out _ _ ?_ (fun hHeld => ?_)
    · exact kept2 hHeld bb1
    clear hK K
    try simp only [Act.put, List.setIfInBounds_toArray, List.set_cons_zero, List.set_cons_succ]
    refine wpAnyH_ready (rs := [7]) (by kernel_rfl) (by simp) ?_
    refine AllReadyH.cons rfl (fun K hK => ?_) AllReadyH.nil
    simp only [List.getElem_toArray, List.getElem_cons_succ, List.getElem_cons_zero]
    go_simp
    refine (c2.out _ hHeld.1).mono ?_
    rintro e x2 ⟨rfl, bb2⟩
    go_wp2_with fail
    refine hK.out _ _ ?_ (fun hHeld => ?_)
    · exact kept2 hHeld bb2
    clear hK K
    try simp only [Act.put, List.setIfInBounds_toArray, List.set_cons_zero, List.set_cons_succ]
    refine wpAnyH_take (i := 8) (v := ?_) rfl (by kernel_rfl) (by kernel_rfl) (by kernel_rfl) (fun _ _ _ h => h) (Or.inl ⟨by rfl, ?_⟩) (by assumption) ?_
    rotate_left
    · (intro w hSw; (try dsimp only at hSw); simp only [List.getElem_toArray, List.getElem_cons_succ, List.getElem_cons_zero]; go_simp; try with_reducible rfl)
    simp only [Act.put, List.getElem_toArray, List.getElem_cons_succ, List.getElem_cons_zero, List.setIfInBounds_toArray, List.set_cons_zero, List.set_cons_succ]
    refine wpAnyH_take (i := 12) (v := ?_) rfl (by kernel_rfl) (by kernel_rfl) (by kernel_rfl) (fun _ _ _ h => h) (Or.inl ⟨by rfl, ?_⟩) (by assumption) ?_
    rotate_left
    · (intro w hSw; (try dsimp only at hSw); simp only [List.getElem_toArray, List.getElem_cons_succ, List.getElem_cons_zero]; go_simp; try with_reducible rfl)
    simp only [Act.put, List.getElem_toArray, List.getElem_cons_succ, List.getElem_cons_zero, List.setIfInBounds_toArray, List.set_cons_zero, List.set_cons_succ]
    refine wpAnyH_take (i := 13) (v := ?_) rfl (by kernel_rfl) (by kernel_rfl) (by kernel_rfl) (fun _ _ _ h => h) (Or.inl ⟨by rfl, ?_⟩) (by assumption) ?_
    rotate_left
    · (intro w hSw; (try dsimp only at hSw); simp only [List.getElem_toArray, List.getElem_cons_succ, List.getElem_cons_zero]; go_simp; try with_reducible rfl)
    simp only [Act.put, List.getElem_toArray, List.getElem_cons_succ, List.getElem_cons_zero, List.setIfInBounds_toArray, List.set_cons_zero, List.set_cons_succ]
    refine wpAnyH_ready (rs := [14]) (by kernel_rfl) (by simp) ?_
    refine AllReadyH.cons rfl (fun K hK => ?_) AllReadyH.nil
    simp only [List.getElem_toArray, List.getElem_cons_succ, List.getElem_cons_zero]
    go_simp
    refine (c3.out _ hHeld.1).mono ?_
    rintro e x3 ⟨rfl, bb3⟩
    go_wp2_with fail
    refine hK.out _ _ ?_ (fun hHeld => ?_)
    · exact kept2 hHeld bb3
    clear hK K
    try simp only [Act.put, List.setIfInBounds_toArray, List.set_cons_zero, List.set_cons_succ]
    refine wpAnyH_take (i := 15) (v := ?_) rfl (by kernel_rfl) (by kernel_rfl) (by kernel_rfl) (fun _ _ _ h => h) (Or.inl ⟨by rfl, ?_⟩) (by assumption) ?_
    rotate_left
    · (intro w hSw; (try dsimp only at hSw); simp only [List.getElem_toArray, List.getElem_cons_succ, List.getElem_cons_zero]; go_simp; try with_reducible rfl)
    simp only [Act.put, List.getElem_toArray, List.getElem_cons_succ, List.getElem_cons_zero, List.setIfInBounds_toArray, List.set_cons_zero, List.set_cons_succ]
    refine wpAnyH_take (i := 16) (v := ?_) rfl (by kernel_rfl) (by kernel_rfl) (by kernel_rfl) (fun _ _ _ h => h) (Or.inl ⟨by rfl, ?_⟩) (by assumption) ?_
    rotate_left
    · (intro w hSw; (try dsimp only at hSw); simp only [List.getElem_toArray, List.getElem_cons_succ, List.getElem_cons_zero]; go_simp; try with_reducible rfl)
    simp only [Act.put, List.getElem_toArray, List.getElem_cons_succ, List.getElem_cons_zero, List.setIfInBounds_toArray, List.set_cons_zero, List.set_cons_succ]
    refine wpAnyH_done (by kernel_rfl) ?_ _
    go_wp2
    go_ret
    exact ⟨rfl, below_two BW.out hHeld.1⟩)
theorem apart_walk (w : World) (hl : Laid w) (bs : List UInt8) (hb : bs.length = 16) (cs : List UInt8) (hc : cs.length = 16) (v : Value) (n : Nat) (ks : Nat → Nat → Nat) (hk : IsK w v n ks) :
    Calls Tryd.prog 9 #[.agg (bcells bs).toArray, .agg (bcells cs).toArray, v] w fun e w' => e = .returned (.bool true) ∧ Below w.heap.size w w' := by
  rw [bcells_bc bs, bcells_bc cs, hb, hc]
  have hf := lf_byt bs
  have hg := lf_byt cs
  generalize lf bs = f at hf ⊢
  generalize lf cs = k at hg ⊢
  have hk' := hk
  obtain ⟨h0, a, cap, rfl, _⟩ := hk'
  by_cases hn : 20 < n
  · exact apart_far _ _ a n cap hn w
  refine apart_core (bc 16 f) (bc 16 k) (bc 16 (rnds f ks n)) (bc 16 (rnds k ks n)) (bc_len _ _) (bc_len _ _) a n cap (by omega) (eqb 16 f k) w (fun w' hb => tables_any w' (hl.later hb)) (fun w' hb => awake_any w' (hl.later hb))
    (fun w => ?_) (fun w => eq_bc w _ 16 Tryd.underlying22 f k hf hg) (fun g w' ht hb => rounds_any g n _ f ks hf (by omega) w' ht (hk.later hb)) (fun g w' ht hb => rounds_any g n _ k ks hg (by omega) w' ht (hk.later hb))
  rw [eq_bc w _ 16 Tryd.underlying22 _ _ (rnds_byt hf h0 n) (rnds_byt hg h0 n)]
  congr 1
  rw [Bool.eq_iff_iff, eqb_iff, eqb_iff]
  exact ⟨rnds_inj hf hg h0 n, fun h => rnds_congr h n⟩
set_option linter.unusedVariables false in
set_option maxRecDepth 100000 in
theorem turnApart_lifted (os : Os) (started : os.Started) (H : Type) (enc : TypeId × Value → H) :
    ReturnsInHanded {} Tryd.checked os 9 .any (fun w args => (Rows.turnApartSpec.pre enc Tryd.prog Tryd.f9 [] false w args ∧ laidMetH Tryd.prog lay2 w) ∧ sizedMet enc Tryd.prog Tryd.f9 (OpenSpec.ofChange Rows.turnApartSpec) false w args)
      (Rows.turnApartSpec.post enc Tryd.prog Tryd.f9 false true false false) := by
  refine returnsInHanded_of_change_and (C := Tryd.checked) (X := fun w _ => laidMetH Tryd.prog lay2 w) (fun _ _ _ hh h => h.of_heap hh) own started (by kernel_rfl) Tryd.func9
    (ChangeSpec.witness_shaped (enc := enc) (C := Tryd.checked) (os := os) (X := fun w _ => laidMetH Tryd.prog lay2 w) false (World.doorLaid Tryd.prog 400 os) #[.agg #[.int .u8 0, .int .u8 0, .int .u8 0, .int .u8 0, .int .u8 0, .int .u8 0, .int .u8 0, .int .u8 0, .int .u8 0, .int .u8 0, .int .u8 0, .int .u8 0, .int .u8 0, .int .u8 0, .int .u8 0, .int .u8 0], .agg #[.int .u8 0, .int .u8 0, .int .u8 0, .int .u8 0, .int .u8 0, .int .u8 0, .int .u8 0, .int .u8 0, .int .u8 0, .int .u8 0, .int .u8 0, .int .u8 0, .int .u8 0, .int .u8 0, .int .u8 0, .int .u8 0], .slice none 0 0] 8 rfl (World.shaped_of_RefB (by kernel_rfl) (by kernel_rfl)) (by kernel_rfl) (by kernel_rfl) (by kernel_rfl) (door_met os _)) ?_
  intro W base args ds gs before hval0 hW _ _ hL _
  have hval : ∀ (j : Nat) t v, Tryd.f9.params[j]? = some t → args[j]? = some v → Value.okWide Tryd.prog W .any base t v := hval0
  have hW' := hW
  obtain ⟨p, q, hA0, hV, rfl, hfz, hnd⟩ := hW
  have hA : DataW.TrodAll enc Tryd.prog W 0 (fun _ => true) true Tryd.f9.params.toList args.toList ds p := hA0
  rw [Tryd.params9] at hA hval
  obtain ⟨v0, vs0, d0, ds0, p0, q0, hargs, rfl, rfl, h0, r0⟩ := trodAll_cons hA
  obtain ⟨v1, vs1, d1, ds1, p1, q1, rfl, rfl, rfl, h1, r1⟩ := trodAll_cons r0
  obtain ⟨v2, vs2, d2, ds2, p2, q2, rfl, rfl, rfl, h2, r2⟩ := trodAll_cons r1
  obtain ⟨rfl, rfl, rfl⟩ := trodAll_nil r2
  obtain rfl : args = #[v0, v1, v2] := by cases args; simp_all
  obtain ⟨rfl, rfl⟩ := trodVars_none hV
  have lt0 : ∀ x ∈ p0, x.block < W.heap.size := by obtain ⟨m, hm⟩ := h0; exact DataW.trod_lt m _ _ _ hm
  have lt1 : ∀ x ∈ p1, x.block < W.heap.size := by obtain ⟨m, hm⟩ := h1; exact DataW.trod_lt m _ _ _ hm
  have lt2 : ∀ x ∈ p2, x.block < W.heap.size := by obtain ⟨m, hm⟩ := h2; exact DataW.trod_lt m _ _ _ hm
  obtain ⟨bs0, hl0, rfl⟩ := arr16_of_trod (hval 0 22 v0 rfl rfl) h0
  obtain ⟨bs1, hl1, rfl⟩ := arr16_of_trod (hval 1 22 v1 rfl rfl) h1
  obtain ⟨a2, len2, cap2, rfl⟩ := okWide_slice Tryd.underlying34 (hval 2 34 v2 rfl rfl)
  obtain ⟨ks2, hb2⟩ := isK_of_trod h2
  clear hA0 hval0
  refine (apart_walk W (laid_of hL) bs0 hl0 bs1 hl1 _ len2 ks2 hb2).mono fun e W' ⟨he, bel⟩ => ?_
  subst he
  exact ⟨_, rfl, _, _, _, [], _, [], hW', trodAll_mk1 (shut_bool Tryd.underlying4 _), (trodAll_cons_mk (Below.trod laidOut (by kernel_rfl) (of_decide_eq_true (by kernel_rfl)) h0 bel lt0) (trodAll_cons_mk (Below.trod laidOut (by kernel_rfl) (of_decide_eq_true (by kernel_rfl)) h1 bel lt1) (trodAll_cons_mk (Below.trod laidOut (by kernel_rfl) (of_decide_eq_true (by kernel_rfl)) h2 bel lt2) trodAll_mk0))), rfl, bel.frame _, fun h => by cases h⟩
theorem turnApart_holds : Rows.TurnApartSaid :=
  OpenClaim.holds_of_wide 9 Tryd.f9 rfl rfl rfl rfl rfl rfl rfl ⟨rfl, rfl, rfl, rfl, rfl⟩ rfl rfl rfl rfl rfl (by kernel_rfl) Tryd.func9 (by kernel_rfl)
    (of_decide_eq_true (by kernel_rfl)) (by unfold Func.isWrapper; first | (rw [if_pos (by decide +kernel)]; kernel_rfl) | (rw [if_neg (by decide +kernel)]; exact ⟨rfl, rfl⟩))
    (fun os started H enc _ => turnApart_lifted os started H enc)
theorem turnApart_card : Rows.TurnApartCardSaid :=
  Claim7.holds_tied_plain_at .later [] [.data, .data] true _ false
    turnApart_holds (fun _ h => by cases h) (by kernel_rfl) (fun _ h => by cases h) turnApart_row_tie rfl ⟨rfl, rfl⟩ (by kernel_rfl) rfl
    (fun f fn hf hfn => by
      obtain rfl : f = 9 := Option.some.inj ((show Tryd.prog.funcNamed "wringer/wringerlaw03.TurnApart" = some 9 by kernel_rfl).symm.trans hf) |>.symm
      obtain rfl : fn = Tryd.f9 := (Option.some.inj (Tryd.func9.symm.trans hfn)).symm
      exact ⟨by kernel_rfl, fun j t ht => by
        rw [Tryd.params9] at ht
        have hm : t ∈ [22, 22, 34] := by simpa using Array.mem_of_getElem? ht
        have hall : ([22, 22, 34].all fun u => !Tryd.prog.wantsStandIn u) = true := by kernel_rfl
        exact (show Tryd.prog.wantsStandIn t = false by simpa using List.all_eq_true.1 hall t hm)⟩)
    (by kernel_rfl)
#print axioms turnApart_card

end Go.Proofs.YtejhnpgolpjleaaDoor
