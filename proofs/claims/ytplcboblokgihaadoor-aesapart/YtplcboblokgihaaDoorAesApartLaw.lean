/- Proved here: for every key of 16, 24 or 32 bytes and all blocks a and b AesApart returns true and leaves its arguments as they were (with one key no two blocks are enciphered to one), where the two tables of coefficients lie as the program's text lays them; no other condition. -/
import Derived.Test.YtplcboblokgihaaDoorKeyArg
namespace Go.Proofs.YtplcboblokgihaaDoor
open Go.ChangeShapes Go.WideShapes Go.ChangeAt Go.RowKit

theorem kept3 {W0 W W' : World} {p q s : Nat} {X Y V : List Value} (h : Below W0.heap.size W0 W ∧ W.rangeAt p 0 X ∧ W.rangeAt q 0 Y ∧ W.rangeAt s 0 V) (hb : Below W.heap.size W W') : Below W0.heap.size W0 W' ∧ W'.rangeAt p 0 X ∧ W'.rangeAt q 0 Y ∧ W'.rangeAt s 0 V :=
  ⟨below_two h.1 hb, fun j v hj => Go.Proofs.YtplcboblokgihaaDoor.later hb (h.2.1 j v hj), fun j v hj => Go.Proofs.YtplcboblokgihaaDoor.later hb (h.2.2.1 j v hj), fun j v hj => Go.Proofs.YtplcboblokgihaaDoor.later hb (h.2.2.2 j v hj)⟩
set_option linter.unusedSimpArgs false in
set_option maxRecDepth 100000 in
set_option maxHeartbeats 4000000 in
theorem aesapart_core (X Y V A B : List Value) (hX : X.length = 33) (hY : Y.length = 16) (hV : V.length = 16) (bs : List UInt8) (r : Nat) (F : Nat → Nat) (t : Bool) (w : World)
    (cT : Hid (∀ w', Below w.heap.size w w' → Calls Tryd.prog 11 #[] w' fun e w'' => (∃ g, e = .returned (.pointer (some ⟨g, 0, none⟩)) ∧ IsTab w'' g) ∧ Below w'.heap.size w' w''))
    (cA : Hid (∀ w', Below w.heap.size w w' → Calls Tryd.prog 15 #[] w' fun e w'' => e = .returned (.bool true) ∧ Below w'.heap.size w' w''))
    (cY : Hid (∀ w', Calls Tryd.prog 18 #[.agg X.toArray] w' fun e w'' => ∃ v, e = .returned v ∧ IsB w'' v bs ∧ Below w'.heap.size w' w''))
    (cE : Hid (∀ g w' v, IsTab w' g → IsB w' v bs → Calls Tryd.prog 10 #[.pointer (some ⟨g, 0, none⟩), v] w' fun e w'' => (∃ q, e = .returned (.tuple #[.pointer (some ⟨q, 0, none⟩), .int .i64 0]) ∧ IsKey w'' q g r F ∧ IsTab w'' g) ∧ Below w'.heap.size w' w''))
    (hE1 : ∀ w, (Op.equalIn 10000 31 (.agg A.toArray) (.agg B.toArray)).run Tryd.prog w = .ok t w)
    (hE2 : ∀ w, (Op.equalIn 10000 31 (.agg Y.toArray) (.agg V.toArray)).run Tryd.prog w = .ok t w)
    (k1 : Hid (∀ q g w', IsKey w' q g r F ∧ IsTab w' g → Calls Tryd.prog 19 #[.pointer (some ⟨q, 0, none⟩), .agg Y.toArray] w' fun e w'' => e = .returned (.agg A.toArray) ∧ Below w'.heap.size w' w''))
    (k2 : Hid (∀ q g w', IsKey w' q g r F ∧ IsTab w' g → Calls Tryd.prog 19 #[.pointer (some ⟨q, 0, none⟩), .agg V.toArray] w' fun e w'' => e = .returned (.agg B.toArray) ∧ Below w'.heap.size w' w'')) :
    Calls Tryd.prog 6 #[.agg X.toArray, .agg Y.toArray, .agg V.toArray] w fun e w' => e = .returned (.bool true) ∧ Below w.heap.size w w' := by
  have iX : (Tryd.prog.info? 43).map (·.size) = some X.length := by rw [hX]; rfl
  have iY : (Tryd.prog.info? 31).map (·.size) = some Y.length := by rw [hY]; rfl
  have iV : (Tryd.prog.info? 31).map (·.size) = some V.length := by rw [hV]; rfl
  have B0 : Hid (Below w.heap.size w (((w.alloc (.cells X.toArray 43)).alloc (.cells Y.toArray 31)).alloc (.cells V.toArray 31))) := below_alloc (below_alloc (below_alloc (Below.refl _ _) _) _) _
  have s' : ∀ (w : World) (o : Obj), (w.alloc o).heap.size = w.heap.size + 1 := fun w o => by simp
  have hV0 : (((w.alloc (.cells X.toArray 43)).alloc (.cells Y.toArray 31)).alloc (.cells V.toArray 31)).heap[w.heap.size + 1 + 1]? = some (.cells V.toArray 31 (0, 0)) := by
    rw [← s' w (.cells X.toArray 43), ← s' _ (.cells Y.toArray 31)]; exact heap_alloc_new _ _
  have hY0 : (((w.alloc (.cells X.toArray 43)).alloc (.cells Y.toArray 31)).alloc (.cells V.toArray 31)).heap[w.heap.size + 1]? = some (.cells Y.toArray 31 (0, 0)) := by
    rw [← s' w (.cells X.toArray 43)]; exact heap_alloc2_old _ _ _
  have hX0 : (((w.alloc (.cells X.toArray 43)).alloc (.cells Y.toArray 31)).alloc (.cells V.toArray 31)).heap[w.heap.size]? = some (.cells X.toArray 43 (0, 0)) := by
    have n : (w.alloc (.cells X.toArray 43)).heap[w.heap.size]? = some (.cells X.toArray 43 (0, 0)) := heap_alloc_new _ _
    have b : Below (w.alloc (.cells X.toArray 43)).heap.size (w.alloc (.cells X.toArray 43)) (((w.alloc (.cells X.toArray 43)).alloc (.cells Y.toArray 31)).alloc (.cells V.toArray 31)) := below_alloc (below_alloc (Below.refl _ _) _) _
    exact (b.block _ (by rw [s']; omega)).trans n
  have rX : (((w.alloc (.cells X.toArray 43)).alloc (.cells Y.toArray 31)).alloc (.cells V.toArray 31)).rangeAt w.heap.size 0 X := fun j v hj => by
    rw [Nat.zero_add, cell_of_row _ w.heap.size _ _ _ _ hX0]; simpa using hj
  have rY : (((w.alloc (.cells X.toArray 43)).alloc (.cells Y.toArray 31)).alloc (.cells V.toArray 31)).rangeAt (w.heap.size + 1) 0 Y := fun j v hj => by
    rw [Nat.zero_add, cell_of_row _ (w.heap.size + 1) _ _ _ _ hY0]; simpa using hj
  have rV : (((w.alloc (.cells X.toArray 43)).alloc (.cells Y.toArray 31)).alloc (.cells V.toArray 31)).rangeAt (w.heap.size + 1 + 1) 0 V := fun j v hj => by
    rw [Nat.zero_add, cell_of_row _ (w.heap.size + 1 + 1) _ _ _ _ hV0]; simpa using hj
  clear hX0 hY0 hV0 s'
  go_enter Tryd.func6, Tryd.ntmps6
  go_wp2_with fail
  obtain ⟨W0, hW0⟩ : ∃ W0, W0 = (((w.alloc (.cells X.toArray 43)).alloc (.cells Y.toArray 31)).alloc (.cells V.toArray 31)) := ⟨_, rfl⟩
  rw [← hW0] at B0 rX rY rV ⊢
  clear hW0
  refine wp_region_held_drew (S := fun w' => Below W0.heap.size W0 w' ∧ w'.rangeAt w.heap.size 0 X ∧ w'.rangeAt (w.heap.size + 1) 0 Y ∧ w'.rangeAt (w.heap.size + 1 + 1) 0 V) (by kernel_rfl) ?_ (fun hHeld => ?_)
  · exact ⟨(Below.refl _ _).drew, rX, rY, rV⟩
  refine wpAnyH_take (i := 1) rfl (by kernel_rfl) (by kernel_rfl) (by kernel_rfl) (fun _ _ _ h => h) (yieldsIf_load_mid (by rfl) _ _ rfl _ _ rfl X _ (fun w hSw => hSw.2.1) Tryd.underlying43 rfl iX) (by assumption) ?_
  simp only [Act.put, List.getElem_toArray, List.getElem_cons_succ, List.getElem_cons_zero, List.setIfInBounds_toArray, List.set_cons_zero, List.set_cons_succ]
  refine wpAnyH_ready (rs := [0]) (by kernel_rfl) (by simp) ?_
  refine AllReadyH.cons rfl (fun K hK => ?_) AllReadyH.nil
  simp only [List.getElem_toArray, List.getElem_cons_zero]
  go_simp
  refine (cT.out _ (below_two B0.out hHeld.1)).mono ?_
  rintro e x1 ⟨⟨g, rfl, ht⟩, bb1⟩
  have hH1 := kept3 hHeld bb1
  go_wp2_with fail
  refine hK.out _ _ ?_ (fun hHeld => ?_)
  · exact hH1
  clear hK K
  try simp only [Act.put, List.setIfInBounds_toArray, List.set_cons_zero, List.set_cons_succ]
  refine wpAnyH_ready (rs := [2]) (by kernel_rfl) (by simp) ?_
  refine AllReadyH.cons rfl (fun K hK => ?_) AllReadyH.nil
  simp only [List.getElem_toArray, List.getElem_cons_succ, List.getElem_cons_zero]
  go_simp
  refine (cY.out _).mono ?_
  rintro e x2 ⟨v, rfl, hv, bb2⟩
  have hH2 := kept3 hH1 bb2
  go_wp2_with fail
  refine hK.out _ _ ?_ (fun hHeld => ?_)
  · exact hH2
  clear hK K
  try simp only [Act.put, List.setIfInBounds_toArray, List.set_cons_zero, List.set_cons_succ]
  refine wpAnyH_ready (rs := [3]) (by kernel_rfl) (by simp) ?_
  refine AllReadyH.cons rfl (fun K hK => ?_) AllReadyH.nil
  simp only [List.getElem_toArray, List.getElem_cons_succ, List.getElem_cons_zero]
  go_simp
  refine (cE.out g _ v (ht.later bb2) hv).mono ?_
  rintro e x3 ⟨⟨q, rfl, hk, ht3⟩, bb3⟩
  have hH3 := kept3 hH2 bb3
  go_wp2_with fail
  refine hK.out _ _ ?_ (fun hHeld => ?_)
  · exact hH3
  clear hK K
  try simp only [Act.put, List.setIfInBounds_toArray, List.set_cons_zero, List.set_cons_succ]
  refine wpAnyH_take (i := 4) (v := ?_) rfl (by kernel_rfl) (by kernel_rfl) (by kernel_rfl) (fun _ _ _ h => h) (Or.inl ⟨by rfl, ?_⟩) (by assumption) ?_
  rotate_left
  · (intro w hSw; (try dsimp only at hSw); simp only [List.getElem_toArray, List.getElem_cons_succ, List.getElem_cons_zero]; go_simp; try with_reducible rfl)
  simp only [Act.put, List.getElem_toArray, List.getElem_cons_succ, List.getElem_cons_zero, List.setIfInBounds_toArray, List.set_cons_zero, List.set_cons_succ]
  refine wpAnyH_take (i := 5) (v := ?_) rfl (by kernel_rfl) (by kernel_rfl) (by kernel_rfl) (fun _ _ _ h => h) (Or.inl ⟨by rfl, ?_⟩) (by assumption) ?_
  rotate_left
  · (intro w hSw; (try dsimp only at hSw); simp only [List.getElem_toArray, List.getElem_cons_succ, List.getElem_cons_zero]; go_simp; try with_reducible rfl)
  simp only [Act.put, List.getElem_toArray, List.getElem_cons_succ, List.getElem_cons_zero, List.setIfInBounds_toArray, List.set_cons_zero, List.set_cons_succ]
  refine wpAnyH_take (i := 6) (v := ?_) rfl (by kernel_rfl) (by kernel_rfl) (by kernel_rfl) (fun _ _ _ h => h) (Or.inl ⟨by rfl, ?_⟩) (by assumption) ?_
  rotate_left
  · (intro w hSw; (try dsimp only at hSw); simp only [List.getElem_toArray, List.getElem_cons_succ, List.getElem_cons_zero]; go_simp; try with_reducible rfl)
  simp only [Act.put, List.getElem_toArray, List.getElem_cons_succ, List.getElem_cons_zero, List.setIfInBounds_toArray, List.set_cons_zero, List.set_cons_succ]
  refine wpAnyH_take (i := 7) (v := ?_) rfl (by kernel_rfl) (by kernel_rfl) (by kernel_rfl) (fun _ _ _ h => h) (Or.inl ⟨by rfl, ?_⟩) (by assumption) ?_
  rotate_left
  · (intro w hSw; (try dsimp only at hSw); simp only [List.getElem_toArray, List.getElem_cons_succ, List.getElem_cons_zero]; go_simp; try with_reducible rfl)
  simp only [Act.put, List.getElem_toArray, List.getElem_cons_succ, List.getElem_cons_zero, List.setIfInBounds_toArray, List.set_cons_zero, List.set_cons_succ]
  refine wpAnyH_take (i := 8) (v := ?_) rfl (by kernel_rfl) (by kernel_rfl) (by kernel_rfl) (fun _ _ _ h => h) (Or.inl ⟨by rfl, ?_⟩) (by assumption) ?_
  rotate_left
  · (intro w hSw; (try dsimp only at hSw); simp only [List.getElem_toArray, List.getElem_cons_succ, List.getElem_cons_zero]; go_simp; try with_reducible rfl)
  simp only [Act.put, List.getElem_toArray, List.getElem_cons_succ, List.getElem_cons_zero, List.setIfInBounds_toArray, List.set_cons_zero, List.set_cons_succ]
  refine wpAnyH_done (by kernel_rfl) ?_ _
  have HH := hide hH3
  have BB := hide (below_two B0.out hH3.1)
  have HK := hide (And.intro hk ht3)
  have c1 := hide (fun w' (hb : Below x3.heap.size x3 w') => k1.out q g w' ⟨HK.out.1.later hb, HK.out.2.later hb⟩)
  have c2 := hide (fun w' (hb : Below x3.heap.size x3 w') => k2.out q g w' ⟨HK.out.1.later hb, HK.out.2.later hb⟩)
  have c5 := hide (fun w' (hb : Below x3.heap.size x3 w') => cA.out w' (below_two BB.out hb))
  clear hH1 hH2 hH3 bb1 bb2 bb3 ht ht3 hk hv rX rY rV B0 hHeld
  go_wp2_with fail
  refine wp_region_held_drew (S := fun w' => Below x3.heap.size x3 w' ∧ w'.rangeAt w.heap.size 0 X ∧ w'.rangeAt (w.heap.size + 1) 0 Y ∧ w'.rangeAt (w.heap.size + 1 + 1) 0 V) (by kernel_rfl) ?_ (fun hHeld => ?_)
  · exact ⟨(Below.refl _ _).drew, HH.out.2.1, HH.out.2.2.1, HH.out.2.2.2⟩
  refine wpAnyH_take (i := 0) (v := ?_) rfl (by kernel_rfl) (by kernel_rfl) (by kernel_rfl) (fun _ _ _ h => h) (Or.inl ⟨by rfl, ?_⟩) (by assumption) ?_
  rotate_left
  · (intro w hSw; (try dsimp only at hSw); simp only [List.getElem_toArray, List.getElem_cons_zero]; go_simp; try with_reducible rfl)
  simp only [Act.put, List.getElem_toArray, List.getElem_cons_zero, List.setIfInBounds_toArray, List.set_cons_zero, List.set_cons_succ]
  refine wpAnyH_take (i := 1) (v := ?_) rfl (by kernel_rfl) (by kernel_rfl) (by kernel_rfl) (fun _ _ _ h => h) (Or.inl ⟨by rfl, ?_⟩) (by assumption) ?_
  rotate_left
  · (intro w hSw; (try dsimp only at hSw); simp only [List.getElem_toArray, List.getElem_cons_succ, List.getElem_cons_zero]; go_simp; try with_reducible rfl)
  simp only [Act.put, List.getElem_toArray, List.getElem_cons_succ, List.getElem_cons_zero, List.setIfInBounds_toArray, List.set_cons_zero, List.set_cons_succ]
  refine wpAnyH_take (i := 2) (v := ?_) rfl (by kernel_rfl) (by kernel_rfl) (by kernel_rfl) (fun _ _ _ h => h) (Or.inl ⟨by rfl, ?_⟩) (by assumption) ?_
  rotate_left
  · (intro w hSw; (try dsimp only at hSw); simp only [List.getElem_toArray, List.getElem_cons_succ, List.getElem_cons_zero]; go_simp; try with_reducible rfl)
  simp only [Act.put, List.getElem_toArray, List.getElem_cons_succ, List.getElem_cons_zero, List.setIfInBounds_toArray, List.set_cons_zero, List.set_cons_succ]
  refine wpAnyH_take (i := 3) (v := ?_) rfl (by kernel_rfl) (by kernel_rfl) (by kernel_rfl) (fun _ _ _ h => h) (Or.inl ⟨by rfl, ?_⟩) (by assumption) ?_
  rotate_left
  · (intro w hSw; (try dsimp only at hSw); simp only [List.getElem_toArray, List.getElem_cons_succ, List.getElem_cons_zero]; go_simp; try with_reducible rfl)
  simp only [Act.put, List.getElem_toArray, List.getElem_cons_succ, List.getElem_cons_zero, List.setIfInBounds_toArray, List.set_cons_zero, List.set_cons_succ]
  refine wpAnyH_take (i := 4) (v := ?_) rfl (by kernel_rfl) (by kernel_rfl) (by kernel_rfl) (fun _ _ _ h => h) (Or.inl ⟨by rfl, ?_⟩) (by assumption) ?_
  rotate_left
  · (intro w hSw; (try dsimp only at hSw); simp only [List.getElem_toArray, List.getElem_cons_succ, List.getElem_cons_zero]; go_simp; try with_reducible rfl)
  simp only [Act.put, List.getElem_toArray, List.getElem_cons_succ, List.getElem_cons_zero, List.setIfInBounds_toArray, List.set_cons_zero, List.set_cons_succ]
  refine wpAnyH_take (i := 5) (v := ?_) rfl (by kernel_rfl) (by kernel_rfl) (by kernel_rfl) (fun _ _ _ h => h) (Or.inl ⟨by rfl, ?_⟩) (by assumption) ?_
  rotate_left
  · (intro w hSw; (try dsimp only at hSw); simp only [List.getElem_toArray, List.getElem_cons_succ, List.getElem_cons_zero]; go_simp; try with_reducible rfl)
  simp only [Act.put, List.getElem_toArray, List.getElem_cons_succ, List.getElem_cons_zero, List.setIfInBounds_toArray, List.set_cons_zero, List.set_cons_succ]
  refine wpAnyH_take (i := 6) (v := ?_) rfl (by kernel_rfl) (by kernel_rfl) (by kernel_rfl) (fun _ _ _ h => h) (Or.inl ⟨by rfl, ?_⟩) (by assumption) ?_
  rotate_left
  · (intro w hSw; (try dsimp only at hSw); simp only [List.getElem_toArray, List.getElem_cons_succ, List.getElem_cons_zero]; go_simp; try with_reducible rfl)
  simp only [Act.put, List.getElem_toArray, List.getElem_cons_succ, List.getElem_cons_zero, List.setIfInBounds_toArray, List.set_cons_zero, List.set_cons_succ]
  refine wpAnyH_take (i := 7) (v := ?_) rfl (by kernel_rfl) (by kernel_rfl) (by kernel_rfl) (fun _ _ _ h => h) (Or.inl ⟨by rfl, ?_⟩) (by assumption) ?_
  rotate_left
  · (intro w hSw; (try dsimp only at hSw); simp only [List.getElem_toArray, List.getElem_cons_succ, List.getElem_cons_zero]; go_simp; try with_reducible rfl)
  simp only [Act.put, List.getElem_toArray, List.getElem_cons_succ, List.getElem_cons_zero, List.setIfInBounds_toArray, List.set_cons_zero, List.set_cons_succ]
  refine wpAnyH_take (i := 8) rfl (by kernel_rfl) (by kernel_rfl) (by kernel_rfl) (fun _ _ _ h => h) (yieldsIf_load_mid (by rfl) _ _ rfl _ _ rfl Y _ (fun w hSw => hSw.2.2.1) Tryd.underlying31 rfl iY) (by assumption) ?_
  simp only [Act.put, List.getElem_toArray, List.getElem_cons_succ, List.getElem_cons_zero, List.setIfInBounds_toArray, List.set_cons_zero, List.set_cons_succ]
  refine wpAnyH_take (i := 10) (v := ?_) rfl (by kernel_rfl) (by kernel_rfl) (by kernel_rfl) (fun _ _ _ h => h) (Or.inl ⟨by rfl, ?_⟩) (by assumption) ?_
  rotate_left
  · (intro w hSw; (try dsimp only at hSw); simp only [List.getElem_toArray, List.getElem_cons_succ, List.getElem_cons_zero]; go_simp; try with_reducible rfl)
  simp only [Act.put, List.getElem_toArray, List.getElem_cons_succ, List.getElem_cons_zero, List.setIfInBounds_toArray, List.set_cons_zero, List.set_cons_succ]
  refine wpAnyH_take (i := 11) rfl (by kernel_rfl) (by kernel_rfl) (by kernel_rfl) (fun _ _ _ h => h) (yieldsIf_load_mid (by rfl) _ _ rfl _ _ rfl V _ (fun w hSw => hSw.2.2.2) Tryd.underlying31 rfl iV) (by assumption) ?_
  simp only [Act.put, List.getElem_toArray, List.getElem_cons_succ, List.getElem_cons_zero, List.setIfInBounds_toArray, List.set_cons_zero, List.set_cons_succ]
  refine wpAnyH_take (i := 14) rfl (by kernel_rfl) (by kernel_rfl) (by kernel_rfl) (fun _ _ _ h => h) (yieldsIf_load_mid (by rfl) _ _ rfl _ _ rfl Y _ (fun w hSw => hSw.2.2.1) Tryd.underlying31 rfl iY) (by assumption) ?_
  simp only [Act.put, List.getElem_toArray, List.getElem_cons_succ, List.getElem_cons_zero, List.setIfInBounds_toArray, List.set_cons_zero, List.set_cons_succ]
  refine wpAnyH_take (i := 15) rfl (by kernel_rfl) (by kernel_rfl) (by kernel_rfl) (fun _ _ _ h => h) (yieldsIf_load_mid (by rfl) _ _ rfl _ _ rfl V _ (fun w hSw => hSw.2.2.2) Tryd.underlying31 rfl iV) (by assumption) ?_
  simp only [Act.put, List.getElem_toArray, List.getElem_cons_succ, List.getElem_cons_zero, List.setIfInBounds_toArray, List.set_cons_zero, List.set_cons_succ]
  refine wpAnyH_take (i := 16) (v := ?_) rfl (by kernel_rfl) (by kernel_rfl) (by kernel_rfl) (fun _ _ _ h => h) (Or.inl ⟨by rfl, ?_⟩) (by assumption) ?_
  rotate_left
  · (intro w hSw; (try dsimp only at hSw); simp only [List.getElem_toArray, List.getElem_cons_succ, List.getElem_cons_zero]; go_simp; try with_reducible rfl)
  simp only [Act.put, List.getElem_toArray, List.getElem_cons_succ, List.getElem_cons_zero, List.setIfInBounds_toArray, List.set_cons_zero, List.set_cons_succ]
  refine wpAnyH_ready (rs := [9]) (by kernel_rfl) (by simp) ?_
  refine AllReadyH.cons rfl (fun K hK => ?_) AllReadyH.nil
  simp only [List.getElem_toArray, List.getElem_cons_succ, List.getElem_cons_zero]
  go_simp
  refine (c1.out _ hHeld.1).mono ?_
  rintro e x5 ⟨rfl, bb5⟩
  go_wp2_with fail
  refine hK.out _ _ ?_ (fun hHeld => ?_)
  · exact kept3 hHeld bb5
  clear hK K
  try simp only [Act.put, List.setIfInBounds_toArray, List.set_cons_zero, List.set_cons_succ]
  refine wpAnyH_ready (rs := [12]) (by kernel_rfl) (by simp) ?_
  refine AllReadyH.cons rfl (fun K hK => ?_) AllReadyH.nil
  simp only [List.getElem_toArray, List.getElem_cons_succ, List.getElem_cons_zero]
  go_simp
  refine (c2.out _ hHeld.1).mono ?_
  rintro e x6 ⟨rfl, bb6⟩
  go_wp2_with fail
  refine hK.out _ _ ?_ (fun hHeld => ?_)
  · exact kept3 hHeld bb6
  clear hK K
  try simp only [Act.put, List.setIfInBounds_toArray, List.set_cons_zero, List.set_cons_succ]
  refine wpAnyH_take (i := 13) (v := ?_) rfl (by kernel_rfl) (by kernel_rfl) (by kernel_rfl) (fun _ _ _ h => h) (Or.inl ⟨by rfl, ?_⟩) (by assumption) ?_
  rotate_left
  · (intro w hSw; (try dsimp only at hSw); simp only [List.getElem_toArray, List.getElem_cons_succ, List.getElem_cons_zero]; go_simp; try with_reducible rfl)
  simp only [Act.put, List.getElem_toArray, List.getElem_cons_succ, List.getElem_cons_zero, List.setIfInBounds_toArray, List.set_cons_zero, List.set_cons_succ]
  refine wpAnyH_take (i := 17) (v := ?_) rfl (by kernel_rfl) (by kernel_rfl) (by kernel_rfl) (fun _ _ _ h => h) (Or.inl ⟨by rfl, ?_⟩) (by assumption) ?_
  rotate_left
  · (intro w hSw; (try dsimp only at hSw); simp only [List.getElem_toArray, List.getElem_cons_succ, List.getElem_cons_zero]; go_simp; try with_reducible rfl)
  simp only [Act.put, List.getElem_toArray, List.getElem_cons_succ, List.getElem_cons_zero, List.setIfInBounds_toArray, List.set_cons_zero, List.set_cons_succ]
  refine wpAnyH_take (i := 18) (v := ?_) rfl (by kernel_rfl) (by kernel_rfl) (by kernel_rfl) (fun _ _ _ h => h) (Or.inl ⟨by rfl, ?_⟩) (by assumption) ?_
  rotate_left
  · (intro w hSw; (try dsimp only at hSw); simp only [List.getElem_toArray, List.getElem_cons_succ, List.getElem_cons_zero]; go_simp; try with_reducible rfl)
  simp only [Act.put, List.getElem_toArray, List.getElem_cons_succ, List.getElem_cons_zero, List.setIfInBounds_toArray, List.set_cons_zero, List.set_cons_succ]
  refine wpAnyH_take (i := 19) (v := ?_) rfl (by kernel_rfl) (by kernel_rfl) (by kernel_rfl) (fun _ _ _ h => h) (Or.inl ⟨by rfl, ?_⟩) (by assumption) ?_
  rotate_left
  · (intro w hSw; (try dsimp only at hSw); simp only [List.getElem_toArray, List.getElem_cons_succ, List.getElem_cons_zero]; go_simp; try with_reducible rfl)
  simp only [Act.put, List.getElem_toArray, List.getElem_cons_succ, List.getElem_cons_zero, List.setIfInBounds_toArray, List.set_cons_zero, List.set_cons_succ]
  refine wpAnyH_ready (rs := [20]) (by kernel_rfl) (by simp) ?_
  refine AllReadyH.cons rfl (fun K hK => ?_) AllReadyH.nil
  simp only [List.getElem_toArray, List.getElem_cons_succ, List.getElem_cons_zero]
  go_simp
  refine (c5.out _ hHeld.1).mono ?_
  rintro e x9 ⟨rfl, bb9⟩
  go_wp2_with fail
  refine hK.out _ _ ?_ (fun hHeld => ?_)
  · exact kept3 hHeld bb9
  clear hK K
  try simp only [Act.put, List.setIfInBounds_toArray, List.set_cons_zero, List.set_cons_succ]
  refine wpAnyH_take (i := 21) (v := ?_) rfl (by kernel_rfl) (by kernel_rfl) (by kernel_rfl) (fun _ _ _ h => h) (Or.inl ⟨by rfl, ?_⟩) (by assumption) ?_
  rotate_left
  · (intro w hSw; (try dsimp only at hSw); simp only [List.getElem_toArray, List.getElem_cons_succ, List.getElem_cons_zero]; go_simp; try with_reducible rfl)
  simp only [Act.put, List.getElem_toArray, List.getElem_cons_succ, List.getElem_cons_zero, List.setIfInBounds_toArray, List.set_cons_zero, List.set_cons_succ]
  refine wpAnyH_take (i := 22) (v := ?_) rfl (by kernel_rfl) (by kernel_rfl) (by kernel_rfl) (fun _ _ _ h => h) (Or.inl ⟨by rfl, ?_⟩) (by assumption) ?_
  rotate_left
  · (intro w hSw; (try dsimp only at hSw); simp only [List.getElem_toArray, List.getElem_cons_succ, List.getElem_cons_zero]; go_simp; try with_reducible rfl)
  simp only [Act.put, List.getElem_toArray, List.getElem_cons_succ, List.getElem_cons_zero, List.setIfInBounds_toArray, List.set_cons_zero, List.set_cons_succ]
  refine wpAnyH_done (by kernel_rfl) ?_ _
  go_wp2_with fail
  go_ret
  exact ⟨rfl, below_two BB.out hHeld.1⟩
theorem decB_congr {F f f' : Nat → Nat} (r : Nat) (h : ∀ i, i < 16 → f i = f' i) (i : Nat) (hi : i < 16) : decB F r f i = decB F r f' i := by
  have hr : ∀ n i, i < 16 → decU F r f n i = decU F r f' n i := fun n => by
    induction n with
    | zero => exact unl_congr h fun _ _ => rfl
    | succ n ih => exact unr_congr ih fun _ _ => rfl
  unfold decB
  rw [hr _ i hi]
theorem aesapart_walk (w : World) (hl : Laid w) (zs : List UInt8) (hz : zs.length = 33) (bs : List UInt8) (hb : bs.length = 16) (cs : List UInt8) (hc : cs.length = 16) :
    Calls Tryd.prog 6 #[.agg (bcells zs).toArray, .agg (bcells bs).toArray, .agg (bcells cs).toArray] w fun e w' => e = .returned (.bool true) ∧ Below w.heap.size w w' := by
  rw [zL_of zs hz, bcells_bc bs, bcells_bc cs, hb, hc]
  have hf := lf_byt bs
  have hg := lf_byt cs
  have hF := kF_byt (lf zs) (lf zs 32)
  obtain ⟨r1, r2⟩ := zn_rounds (lf zs 32)
  refine aesapart_core (zL (lf zs) (lf zs 32)) (bc 16 (lf bs)) (bc 16 (lf cs)) (bc 16 (encB (kF (lf zs) (lf zs 32)) (nrnd (zn (lf zs 32))) (lf bs))) (bc 16 (encB (kF (lf zs) (lf zs 32)) (nrnd (zn (lf zs 32))) (lf cs)))
    (by unfold zL; rw [List.length_append, bc_len]; rfl) (bc_len _ _) (bc_len _ _) (toB (zn (lf zs 32)) (lf zs)) (nrnd (zn (lf zs 32))) (kF (lf zs) (lf zs 32)) (eqb 16 (lf bs) (lf cs)) w
    (fun w' hb => tables_any w' (hl.later hb)) (fun w' hb => awake4_any w' (hl.later hb)) (fun w' => bytes_any _ _ (lf_byt zs) (lf_byt zs 32) w') (fun g w' v ht hv => expand_z _ _ g w' v ht hv)
    (fun w => ?_) (fun w => eq_bc w _ 16 Tryd.underlying31 _ _ hf hg)
    (fun q g w' h => encrypt_any q g _ _ _ hF hf w' h.1 h.2 r1 r2) (fun q g w' h => encrypt_any q g _ _ _ hF hg w' h.1 h.2 r1 r2)
  rw [eq_bc w _ 16 Tryd.underlying31 _ _ (encB_byt hF hf _) (encB_byt hF hg _)]
  congr 1
  rw [Bool.eq_iff_iff, eqb_iff, eqb_iff]
  constructor
  · intro h i hi
    have e := decB_congr (F := kF (lf zs) (lf zs 32)) (nrnd (zn (lf zs 32))) h i hi
    rwa [dec_enc hF hf _ i hi, dec_enc hF hg _ i hi] at e
  · exact fun h => encB_congr _ h
set_option linter.unusedVariables false in
set_option maxRecDepth 100000 in
theorem aesApart_lifted (os : Os) (started : os.Started) (H : Type) (enc : TypeId × Value → H) :
    ReturnsInHanded {} Tryd.checked os 6 .any (fun w args => (Rows.aesApartSpec.pre enc Tryd.prog Tryd.f6 [] false w args ∧ laidMetH Tryd.prog lay2 w) ∧ sizedMet enc Tryd.prog Tryd.f6 (OpenSpec.ofChange Rows.aesApartSpec) false w args)
      (Rows.aesApartSpec.post enc Tryd.prog Tryd.f6 false true false false) := by
  refine returnsInHanded_of_change_and (C := Tryd.checked) (X := fun w _ => laidMetH Tryd.prog lay2 w) (fun _ _ _ hh h => h.of_heap hh) own started (by kernel_rfl) Tryd.func6
    (ChangeSpec.witness_shaped (enc := enc) (C := Tryd.checked) (os := os) (X := fun w _ => laidMetH Tryd.prog lay2 w) false (World.doorLaid Tryd.prog 400 os) #[.agg #[.int .u8 0, .int .u8 0, .int .u8 0, .int .u8 0, .int .u8 0, .int .u8 0, .int .u8 0, .int .u8 0, .int .u8 0, .int .u8 0, .int .u8 0, .int .u8 0, .int .u8 0, .int .u8 0, .int .u8 0, .int .u8 0, .int .u8 0, .int .u8 0, .int .u8 0, .int .u8 0, .int .u8 0, .int .u8 0, .int .u8 0, .int .u8 0, .int .u8 0, .int .u8 0, .int .u8 0, .int .u8 0, .int .u8 0, .int .u8 0, .int .u8 0, .int .u8 0, .int .u8 0], .agg #[.int .u8 0, .int .u8 0, .int .u8 0, .int .u8 0, .int .u8 0, .int .u8 0, .int .u8 0, .int .u8 0, .int .u8 0, .int .u8 0, .int .u8 0, .int .u8 0, .int .u8 0, .int .u8 0, .int .u8 0, .int .u8 0], .agg #[.int .u8 0, .int .u8 0, .int .u8 0, .int .u8 0, .int .u8 0, .int .u8 0, .int .u8 0, .int .u8 0, .int .u8 0, .int .u8 0, .int .u8 0, .int .u8 0, .int .u8 0, .int .u8 0, .int .u8 0, .int .u8 0]] 8 rfl (World.shaped_of_RefB (by kernel_rfl) (by kernel_rfl)) (by kernel_rfl) (by kernel_rfl) (by kernel_rfl) (door_met os _)) ?_
  intro W base args ds gs before hval0 hW _ _ hL _
  have hval : ∀ (j : Nat) t v, Tryd.f6.params[j]? = some t → args[j]? = some v → Value.okWide Tryd.prog W .any base t v := hval0
  have hW' := hW
  obtain ⟨p, q, hA0, hV, rfl, hfz, hnd⟩ := hW
  have hA : DataW.TrodAll enc Tryd.prog W 0 (fun _ => true) true Tryd.f6.params.toList args.toList ds p := hA0
  rw [Tryd.params6] at hA hval
  obtain ⟨v0, vs0, d0, ds0, p0, q0, hargs, rfl, rfl, h0, r0⟩ := trodAll_cons hA
  obtain ⟨v1, vs1, d1, ds1, p1, q1, rfl, rfl, rfl, h1, r1⟩ := trodAll_cons r0
  obtain ⟨v2, vs2, d2, ds2, p2, q2, rfl, rfl, rfl, h2, r2⟩ := trodAll_cons r1
  obtain ⟨rfl, rfl, rfl⟩ := trodAll_nil r2
  obtain rfl : args = #[v0, v1, v2] := by cases args; simp_all
  obtain ⟨rfl, rfl⟩ := trodVars_none hV
  have lt0 : ∀ x ∈ p0, x.block < W.heap.size := by obtain ⟨m, hm⟩ := h0; exact DataW.trod_lt m _ _ _ hm
  have lt1 : ∀ x ∈ p1, x.block < W.heap.size := by obtain ⟨m, hm⟩ := h1; exact DataW.trod_lt m _ _ _ hm
  have lt2 : ∀ x ∈ p2, x.block < W.heap.size := by obtain ⟨m, hm⟩ := h2; exact DataW.trod_lt m _ _ _ hm
  obtain ⟨bs0, hl0, rfl⟩ := key_of_trod (hval 0 43 v0 rfl rfl) h0
  obtain ⟨bs1, hl1, rfl⟩ := arr16_of_trod (hval 1 31 v1 rfl rfl) h1
  obtain ⟨bs2, hl2, rfl⟩ := arr16_of_trod (hval 2 31 v2 rfl rfl) h2
  clear hA0 hval0
  refine (aesapart_walk W (laid_of hL) bs0 hl0 bs1 hl1 bs2 hl2).mono fun e W' ⟨he, bel⟩ => ?_
  subst he
  exact ⟨_, rfl, _, _, _, [], _, [], hW', trodAll_mk1 (shut_bool Tryd.underlying4 _), (trodAll_cons_mk (Below.trod laidOut (by kernel_rfl) (of_decide_eq_true (by kernel_rfl)) h0 bel lt0) (trodAll_cons_mk (Below.trod laidOut (by kernel_rfl) (of_decide_eq_true (by kernel_rfl)) h1 bel lt1) (trodAll_cons_mk (Below.trod laidOut (by kernel_rfl) (of_decide_eq_true (by kernel_rfl)) h2 bel lt2) trodAll_mk0))), rfl, bel.frame _, fun h => by cases h⟩
theorem aesApart_holds : Rows.AesApartSaid :=
  OpenClaim.holds_of_wide 6 Tryd.f6 rfl rfl rfl rfl rfl rfl rfl ⟨rfl, rfl, rfl, rfl, rfl⟩ rfl rfl rfl rfl rfl (by kernel_rfl) Tryd.func6 (by kernel_rfl)
    (of_decide_eq_true (by kernel_rfl)) (by unfold Func.isWrapper; first | (rw [if_pos (by decide +kernel)]; kernel_rfl) | (rw [if_neg (by decide +kernel)]; exact ⟨rfl, rfl⟩))
    (fun os started H enc _ => aesApart_lifted os started H enc)
theorem aesApart_card : Rows.AesApartCardSaid :=
  Claim7.holds_tied_plain_at .later [] [.data, .data] true _ false
    aesApart_holds (fun _ h => by cases h) (by kernel_rfl) (fun _ h => by cases h) aesApart_row_tie rfl ⟨rfl, rfl⟩ (by kernel_rfl) rfl
    (fun f fn hf hfn => by
      obtain rfl : f = 6 := Option.some.inj ((show Tryd.prog.funcNamed "wringer/wringerlaw04.AesApart" = some 6 by kernel_rfl).symm.trans hf) |>.symm
      obtain rfl : fn = Tryd.f6 := (Option.some.inj (Tryd.func6.symm.trans hfn)).symm
      exact ⟨by kernel_rfl, fun j t ht => by
        rw [Tryd.params6] at ht
        have hm : t ∈ [43, 31, 31] := by simpa using Array.mem_of_getElem? ht
        have hall : ([43, 31, 31].all fun u => !Tryd.prog.wantsStandIn u) = true := by kernel_rfl
        exact (show Tryd.prog.wantsStandIn t = false by simpa using List.all_eq_true.1 hall t hm)⟩)
    (by kernel_rfl)
#print axioms aesApart_card

end Go.Proofs.YtplcboblokgihaaDoor
