/- Own: the contracts of the reference's rounds (no statement is proved here). -/
import Derived.Test.YtlkihbmkekadeaaDoorRShift
import Derived.Test.YtlkihbmkekadeaaDoorRMix
import Derived.Test.YtlkihbmkekadeaaDoorRefTable
import Derived.Test.YtlkihbmkekadeaaDoorOT2
namespace Go.Proofs.YtlkihbmkekadeaaDoor
open Go.ChangeShapes Go.WideShapes Go.ChangeAt Go.RowKit
set_option maxRecDepth 20000

/-- What a reference's round keeps: its three arguments, and a place for its answer. -/
def RS (w : World) (o : Nat) (T X Y : List Value) (w' : World) : Prop :=
  Below w.heap.size w w' ∧ w'.rangeAt w.heap.size o T ∧ w'.rangeAt (w.heap.size + 1) 0 X ∧ w'.rangeAt (w.heap.size + 1 + 1) 0 Y ∧ ∃ old : Array Value, w'.heap[w.heap.size + 1 + 1 + 1]? = some (.cells old 31 (0, 0)) ∧ old.size = 16
theorem RS.later {w w' w'' : World} {o : Nat} {T X Y : List Value} (h : RS w o T X Y w') (hb : Below w'.heap.size w' w'') : RS w o T X Y w'' := by
  obtain ⟨b, h1, h2, h3, old, h4, h5⟩ := h
  exact ⟨below_two b hb, fun j v hj => Go.Proofs.YtlkihbmkekadeaaDoor.later hb (h1 j v hj), fun j v hj => Go.Proofs.YtlkihbmkekadeaaDoor.later hb (h2 j v hj), fun j v hj => Go.Proofs.YtlkihbmkekadeaaDoor.later hb (h3 j v hj), old, (hb.block _ (Array.getElem?_eq_some_iff.1 h4).1).trans h4, h5⟩
theorem range_setRow {w : World} {b o g : Nat} {X : List Value} (h : w.rangeAt b o X) (hne : b ≠ g) (cs : Array Value) : (w.setRow g cs).rangeAt b o X := fun j v hj => by
  have := h j v hj
  unfold World.cell? at this ⊢
  rw [setRow_other w g b cs hne]
  exact this
theorem RS.store {w w' : World} {o : Nat} {T X Y : List Value} (h : RS w o T X Y w') (V : Array Value) (hV : V.size = 16) : RS w o T X Y (w'.setRow (w.heap.size + 1 + 1 + 1) V) := by
  obtain ⟨b, h1, h2, h3, old, h4, h5⟩ := h
  exact ⟨below_setRow b (by omega) _, range_setRow h1 (by omega) _, range_setRow h2 (by omega) _, range_setRow h3 (by omega) _, V, setRow_heap _ _ _ _ _ _ h4, hV⟩
theorem RS.start (w : World) (T1 T2 X Y Z : List Value) (hT : T1.length = 256) (hZ : Z.toArray.size = 16) : RS w 0 T1 X Y ((((w.alloc (.cells (T1 ++ T2).toArray 38)).alloc (.cells X.toArray 31)).alloc (.cells Y.toArray 31)).alloc (.cells Z.toArray 31)) ∧ RS w 256 T2 X Y ((((w.alloc (.cells (T1 ++ T2).toArray 38)).alloc (.cells X.toArray 31)).alloc (.cells Y.toArray 31)).alloc (.cells Z.toArray 31)) := by
  have l : ∀ {w : World} {g : Nat} {x : Obj} (o : Obj), w.heap[g]? = some x → (w.alloc o).heap[g]? = some x := fun {w g x} o e =>
    (((Below.refl w.heap.size w).alloc (Nat.le_refl _) o).block g (Array.getElem?_eq_some_iff.1 e).1).trans e
  have s' : ∀ (w : World) (o : Obj), (w.alloc o).heap.size = w.heap.size + 1 := fun w o => by simp
  have h := three_new w (T1 ++ T2).toArray X.toArray Y.toArray 38 31 31
  have b := below_alloc h.1 (.cells Z.toArray 31)
  have r : ∀ {W : World} {g : Nat} {C : List Value} {t : TypeId} (e : W.heap[g]? = some (.cells C.toArray t (0, 0))), W.rangeAt g 0 C := fun {W g C t} e j v hj => by
    rw [Nat.zero_add, cell_of_row W g _ _ _ _ e]; simpa using hj
  have hz : ((((w.alloc (.cells (T1 ++ T2).toArray 38)).alloc (.cells X.toArray 31)).alloc (.cells Y.toArray 31)).alloc (.cells Z.toArray 31)).heap[w.heap.size + 1 + 1 + 1]? = some (.cells Z.toArray 31 (0, 0)) := by
    rw [← s' w (.cells (T1 ++ T2).toArray 38), ← s' _ (.cells X.toArray 31), ← s' _ (.cells Y.toArray 31)]; exact heap_alloc_new _ _
  have hb := l (.cells Z.toArray 31) h.2.1
  constructor
  · refine ⟨b, fun j v hj => ?_, r (l _ h.2.2.1), r (l _ h.2.2.2), _, hz, hZ⟩
    rw [Nat.zero_add, cell_of_row _ _ _ _ _ _ hb]
    have hj' := (List.getElem?_eq_some_iff.1 hj).1
    simpa [List.getElem?_append_left hj'] using hj
  · refine ⟨b, fun j v hj => ?_, r (l _ h.2.2.1), r (l _ h.2.2.2), _, hz, hZ⟩
    rw [cell_of_row _ _ _ _ _ _ hb]
    have e : (T1 ++ T2)[256 + j]? = T2[j]? := by rw [List.getElem?_append_right (by omega), hT, show 256 + j - 256 = j by omega]
    simpa [e] using hj
set_option linter.unusedSimpArgs false in
set_option maxRecDepth 100000 in
set_option maxHeartbeats 4000000 in
theorem rround_core (T1 T2 X Y A B C D : List Value) (w : World) (hT1 : T1.length = 256) (_hT2 : T2.length = 256) (hX : X.length = 16) (hY : Y.length = 16) (hD : D.length = 16) (oD : Hid (D.toArray.all (·.oneCell') = true))
    (c1 : Hid (∀ w, Calls Tryd.prog 69 #[.agg T1.toArray, .agg X.toArray] w fun e w' => e = .returned (.agg A.toArray) ∧ Below w.heap.size w w'))
    (c2 : Hid (∀ w, Calls Tryd.prog 68 #[.agg A.toArray, .bool false] w fun e w' => e = .returned (.agg B.toArray) ∧ Below w.heap.size w w'))
    (c3 : Hid (∀ w, Calls Tryd.prog 67 #[.agg B.toArray, .agg #[.int .u8 2, .int .u8 3, .int .u8 1, .int .u8 1]] w fun e w' => e = .returned (.agg C.toArray) ∧ Below w.heap.size w w'))
    (c4 : Hid (∀ w, Calls Tryd.prog 47 #[.agg C.toArray, .agg Y.toArray] w fun e w' => e = .returned (.agg D.toArray) ∧ Below w.heap.size w w')) :
    Calls Tryd.prog 48 #[.agg (T1 ++ T2).toArray, .agg X.toArray, .agg Y.toArray] w fun e w' => e = .returned (.agg D.toArray) ∧ Below w.heap.size w w' := by
  obtain ⟨Z, hZ⟩ : ∃ Z, Z = bc 16 (fun _ => 0) := ⟨_, rfl⟩
  have hz := zero16
  rw [← hZ] at hz
  have hZl : Z.toArray.size = 16 := by rw [hZ, List.size_toArray, bc_len]
  have iT : (Tryd.prog.info? 36).map (·.size) = some T1.length := by rw [hT1]; rfl
  have iX : (Tryd.prog.info? 31).map (·.size) = some X.length := by rw [hX]; rfl
  have iY : (Tryd.prog.info? 31).map (·.size) = some Y.length := by rw [hY]; rfl
  have H0 := hide (RS.start w T1 T2 X Y Z hT1 hZl).1
  obtain ⟨B, hB⟩ : ∃ B, B = (T1 ++ T2).toArray := ⟨_, rfl⟩
  rw [← hB] at H0 ⊢
  have hVl : D.toArray.size = 16 := by rw [List.size_toArray, hD]
  clear hZ hB
  go_enter Tryd.func48, Tryd.ntmps48
  go_wp2_with fail
  refine wp_region_held_drew (S := RS w 0 T1 X Y) (by kernel_rfl) ?_ (fun hHeld => ?_)
  · exact ⟨H0.out.1.drew, H0.out.2⟩
  refine wpAnyH_take (i := 0) (v := ?_) rfl (by kernel_rfl) (by kernel_rfl) (by kernel_rfl) (fun _ _ _ h => h) (Or.inl ⟨by rfl, ?_⟩) (by assumption) ?_
  rotate_left
  · (intro w hSw; (try dsimp only at hSw); simp only [List.getElem_toArray, List.getElem_cons_zero]; go_simp; try with_reducible rfl)
  simp only [Act.put, List.getElem_toArray, List.getElem_cons_zero, List.setIfInBounds_toArray, List.set_cons_zero, List.set_cons_succ]
  refine wpAnyH_take (i := 1) rfl (by kernel_rfl) (by kernel_rfl) (by kernel_rfl) (fun _ _ _ h => h) (yieldsIf_load_mid (by rfl) _ _ rfl _ _ rfl T1 _ (fun w hSw => hSw.2.1) Tryd.underlying36 rfl iT) (by assumption) ?_
  simp only [Act.put, List.getElem_toArray, List.getElem_cons_succ, List.getElem_cons_zero, List.setIfInBounds_toArray, List.set_cons_zero, List.set_cons_succ]
  refine wpAnyH_take (i := 2) rfl (by kernel_rfl) (by kernel_rfl) (by kernel_rfl) (fun _ _ _ h => h) (yieldsIf_load_mid (by rfl) _ _ rfl _ _ rfl X _ (fun w hSw => hSw.2.2.1) Tryd.underlying31 rfl iX) (by assumption) ?_
  simp only [Act.put, List.getElem_toArray, List.getElem_cons_succ, List.getElem_cons_zero, List.setIfInBounds_toArray, List.set_cons_zero, List.set_cons_succ]
  refine wpAnyH_take (i := 5) (v := ?_) rfl (by kernel_rfl) (by kernel_rfl) (by kernel_rfl) (fun _ _ _ h => h) (Or.inl ⟨by rfl, ?_⟩) (by assumption) ?_
  rotate_left
  · (intro w hSw; (try dsimp only at hSw); simp only [List.getElem_toArray, List.getElem_cons_succ, List.getElem_cons_zero]; go_simp; try with_reducible rfl)
  simp only [Act.put, List.getElem_toArray, List.getElem_cons_succ, List.getElem_cons_zero, List.setIfInBounds_toArray, List.set_cons_zero, List.set_cons_succ]
  refine wpAnyH_take (i := 7) rfl (by kernel_rfl) (by kernel_rfl) (by kernel_rfl) (fun _ _ _ h => h) (yieldsIf_load_mid (by rfl) _ _ rfl _ _ rfl Y _ (fun w hSw => hSw.2.2.2.1) Tryd.underlying31 rfl iY) (by assumption) ?_
  simp only [Act.put, List.getElem_toArray, List.getElem_cons_succ, List.getElem_cons_zero, List.setIfInBounds_toArray, List.set_cons_zero, List.set_cons_succ]
  refine wpAnyH_ready (rs := [3]) (by kernel_rfl) (by simp) ?_
  refine AllReadyH.cons rfl (fun K hK => ?_) AllReadyH.nil
  simp only [List.getElem_toArray, List.getElem_cons_succ, List.getElem_cons_zero]
  go_simp
  refine (c1.out _).mono ?_
  rintro e x0 ⟨rfl, bb0⟩
  go_wp2_with fail
  refine hK.out _ _ ?_ (fun hHeld => ?_)
  · exact RS.later hHeld bb0
  clear hK K
  try simp only [Act.put, List.setIfInBounds_toArray, List.set_cons_zero, List.set_cons_succ]
  refine wpAnyH_ready (rs := [4]) (by kernel_rfl) (by simp) ?_
  refine AllReadyH.cons rfl (fun K hK => ?_) AllReadyH.nil
  simp only [List.getElem_toArray, List.getElem_cons_succ, List.getElem_cons_zero]
  go_simp
  refine (c2.out _).mono ?_
  rintro e x1 ⟨rfl, bb1⟩
  go_wp2_with fail
  refine hK.out _ _ ?_ (fun hHeld => ?_)
  · exact RS.later hHeld bb1
  clear hK K
  try simp only [Act.put, List.setIfInBounds_toArray, List.set_cons_zero, List.set_cons_succ]
  refine wpAnyH_ready (rs := [6]) (by kernel_rfl) (by simp) ?_
  refine AllReadyH.cons rfl (fun K hK => ?_) AllReadyH.nil
  simp only [List.getElem_toArray, List.getElem_cons_succ, List.getElem_cons_zero]
  go_simp
  refine (c3.out _).mono ?_
  rintro e x2 ⟨rfl, bb2⟩
  go_wp2_with fail
  refine hK.out _ _ ?_ (fun hHeld => ?_)
  · exact RS.later hHeld bb2
  clear hK K
  try simp only [Act.put, List.setIfInBounds_toArray, List.set_cons_zero, List.set_cons_succ]
  refine wpAnyH_ready (rs := [8]) (by kernel_rfl) (by simp) ?_
  refine AllReadyH.cons rfl (fun K hK => ?_) AllReadyH.nil
  simp only [List.getElem_toArray, List.getElem_cons_succ, List.getElem_cons_zero]
  go_simp
  refine (c4.out _).mono ?_
  rintro e x3 ⟨rfl, bb3⟩
  go_wp2_with fail
  refine hK.out _ _ ?_ (fun hHeld => ?_)
  · exact RS.later hHeld bb3
  clear hK K
  try simp only [Act.put, List.setIfInBounds_toArray, List.set_cons_zero, List.set_cons_succ]
  refine wpAnyH_ready (rs := [9]) (by kernel_rfl) (by simp) ?_
  refine AllReadyH.cons rfl (fun K hK => ?_) AllReadyH.nil
  rw [if_pos (by rfl)]
  simp only [List.getElem_toArray, List.getElem_cons_succ, List.getElem_cons_zero]
  obtain ⟨old, ho, hos⟩ := hHeld.2.2.2.2
  have HO := hide ho
  refine wp_store_row 31 _ _ rfl (w.heap.size + 1 + 1 + 1) D.toArray rfl rfl 31 old ho (by rw [hVl]; rfl) (by rw [hos, hVl]) oD.out (hK.out _ _ (RS.store hHeld D.toArray hVl) (fun hHeld2 => ?_))
  clear hK K
  try simp only [Act.put, List.setIfInBounds_toArray, List.set_cons_zero, List.set_cons_succ]
  refine wpAnyH_done (by kernel_rfl) ?_ _
  go_wp2
  refine bodyPost_ret (v := .agg D.toArray) (results_cell_row rfl _ _ (w.heap.size + 1 + 1 + 1) 31 D.toArray (0, 0) _ rfl (setRow_heap _ _ _ _ _ _ HO.out) Tryd.underlying31 rfl (by rw [hVl]; rfl)) rfl ⟨rfl, ?_⟩
  exact hHeld2.1
set_option linter.unusedSimpArgs false in
set_option maxRecDepth 100000 in
set_option maxHeartbeats 4000000 in
theorem rlast_core (T1 T2 X Y A B D : List Value) (w : World) (hT1 : T1.length = 256) (_hT2 : T2.length = 256) (hX : X.length = 16) (hY : Y.length = 16) (hD : D.length = 16) (oD : Hid (D.toArray.all (·.oneCell') = true))
    (c1 : Hid (∀ w, Calls Tryd.prog 69 #[.agg T1.toArray, .agg X.toArray] w fun e w' => e = .returned (.agg A.toArray) ∧ Below w.heap.size w w'))
    (c2 : Hid (∀ w, Calls Tryd.prog 68 #[.agg A.toArray, .bool false] w fun e w' => e = .returned (.agg B.toArray) ∧ Below w.heap.size w w'))
    (c3 : Hid (∀ w, Calls Tryd.prog 47 #[.agg B.toArray, .agg Y.toArray] w fun e w' => e = .returned (.agg D.toArray) ∧ Below w.heap.size w w')) :
    Calls Tryd.prog 49 #[.agg (T1 ++ T2).toArray, .agg X.toArray, .agg Y.toArray] w fun e w' => e = .returned (.agg D.toArray) ∧ Below w.heap.size w w' := by
  obtain ⟨Z, hZ⟩ : ∃ Z, Z = bc 16 (fun _ => 0) := ⟨_, rfl⟩
  have hz := zero16
  rw [← hZ] at hz
  have hZl : Z.toArray.size = 16 := by rw [hZ, List.size_toArray, bc_len]
  have iT : (Tryd.prog.info? 36).map (·.size) = some T1.length := by rw [hT1]; rfl
  have iX : (Tryd.prog.info? 31).map (·.size) = some X.length := by rw [hX]; rfl
  have iY : (Tryd.prog.info? 31).map (·.size) = some Y.length := by rw [hY]; rfl
  have H0 := hide (RS.start w T1 T2 X Y Z hT1 hZl).1
  obtain ⟨B, hB⟩ : ∃ B, B = (T1 ++ T2).toArray := ⟨_, rfl⟩
  rw [← hB] at H0 ⊢
  have hVl : D.toArray.size = 16 := by rw [List.size_toArray, hD]
  clear hZ hB
  go_enter Tryd.func49, Tryd.ntmps49
  go_wp2_with fail
  refine wp_region_held_drew (S := RS w 0 T1 X Y) (by kernel_rfl) ?_ (fun hHeld => ?_)
  · exact ⟨H0.out.1.drew, H0.out.2⟩
  refine wpAnyH_take (i := 0) (v := ?_) rfl (by kernel_rfl) (by kernel_rfl) (by kernel_rfl) (fun _ _ _ h => h) (Or.inl ⟨by rfl, ?_⟩) (by assumption) ?_
  rotate_left
  · (intro w hSw; (try dsimp only at hSw); simp only [List.getElem_toArray, List.getElem_cons_zero]; go_simp; try with_reducible rfl)
  simp only [Act.put, List.getElem_toArray, List.getElem_cons_zero, List.setIfInBounds_toArray, List.set_cons_zero, List.set_cons_succ]
  refine wpAnyH_take (i := 1) rfl (by kernel_rfl) (by kernel_rfl) (by kernel_rfl) (fun _ _ _ h => h) (yieldsIf_load_mid (by rfl) _ _ rfl _ _ rfl T1 _ (fun w hSw => hSw.2.1) Tryd.underlying36 rfl iT) (by assumption) ?_
  simp only [Act.put, List.getElem_toArray, List.getElem_cons_succ, List.getElem_cons_zero, List.setIfInBounds_toArray, List.set_cons_zero, List.set_cons_succ]
  refine wpAnyH_take (i := 2) rfl (by kernel_rfl) (by kernel_rfl) (by kernel_rfl) (fun _ _ _ h => h) (yieldsIf_load_mid (by rfl) _ _ rfl _ _ rfl X _ (fun w hSw => hSw.2.2.1) Tryd.underlying31 rfl iX) (by assumption) ?_
  simp only [Act.put, List.getElem_toArray, List.getElem_cons_succ, List.getElem_cons_zero, List.setIfInBounds_toArray, List.set_cons_zero, List.set_cons_succ]
  refine wpAnyH_take (i := 5) rfl (by kernel_rfl) (by kernel_rfl) (by kernel_rfl) (fun _ _ _ h => h) (yieldsIf_load_mid (by rfl) _ _ rfl _ _ rfl Y _ (fun w hSw => hSw.2.2.2.1) Tryd.underlying31 rfl iY) (by assumption) ?_
  simp only [Act.put, List.getElem_toArray, List.getElem_cons_succ, List.getElem_cons_zero, List.setIfInBounds_toArray, List.set_cons_zero, List.set_cons_succ]
  refine wpAnyH_ready (rs := [3]) (by kernel_rfl) (by simp) ?_
  refine AllReadyH.cons rfl (fun K hK => ?_) AllReadyH.nil
  simp only [List.getElem_toArray, List.getElem_cons_succ, List.getElem_cons_zero]
  go_simp
  refine (c1.out _).mono ?_
  rintro e x0 ⟨rfl, bb0⟩
  go_wp2_with fail
  refine hK.out _ _ ?_ (fun hHeld => ?_)
  · exact RS.later hHeld bb0
  clear hK K
  try simp only [Act.put, List.setIfInBounds_toArray, List.set_cons_zero, List.set_cons_succ]
  refine wpAnyH_ready (rs := [4]) (by kernel_rfl) (by simp) ?_
  refine AllReadyH.cons rfl (fun K hK => ?_) AllReadyH.nil
  simp only [List.getElem_toArray, List.getElem_cons_succ, List.getElem_cons_zero]
  go_simp
  refine (c2.out _).mono ?_
  rintro e x1 ⟨rfl, bb1⟩
  go_wp2_with fail
  refine hK.out _ _ ?_ (fun hHeld => ?_)
  · exact RS.later hHeld bb1
  clear hK K
  try simp only [Act.put, List.setIfInBounds_toArray, List.set_cons_zero, List.set_cons_succ]
  refine wpAnyH_ready (rs := [6]) (by kernel_rfl) (by simp) ?_
  refine AllReadyH.cons rfl (fun K hK => ?_) AllReadyH.nil
  simp only [List.getElem_toArray, List.getElem_cons_succ, List.getElem_cons_zero]
  go_simp
  refine (c3.out _).mono ?_
  rintro e x2 ⟨rfl, bb2⟩
  go_wp2_with fail
  refine hK.out _ _ ?_ (fun hHeld => ?_)
  · exact RS.later hHeld bb2
  clear hK K
  try simp only [Act.put, List.setIfInBounds_toArray, List.set_cons_zero, List.set_cons_succ]
  refine wpAnyH_ready (rs := [7]) (by kernel_rfl) (by simp) ?_
  refine AllReadyH.cons rfl (fun K hK => ?_) AllReadyH.nil
  rw [if_pos (by rfl)]
  simp only [List.getElem_toArray, List.getElem_cons_succ, List.getElem_cons_zero]
  obtain ⟨old, ho, hos⟩ := hHeld.2.2.2.2
  have HO := hide ho
  refine wp_store_row 31 _ _ rfl (w.heap.size + 1 + 1 + 1) D.toArray rfl rfl 31 old ho (by rw [hVl]; rfl) (by rw [hos, hVl]) oD.out (hK.out _ _ (RS.store hHeld D.toArray hVl) (fun hHeld2 => ?_))
  clear hK K
  try simp only [Act.put, List.setIfInBounds_toArray, List.set_cons_zero, List.set_cons_succ]
  refine wpAnyH_done (by kernel_rfl) ?_ _
  go_wp2
  refine bodyPost_ret (v := .agg D.toArray) (results_cell_row rfl _ _ (w.heap.size + 1 + 1 + 1) 31 D.toArray (0, 0) _ rfl (setRow_heap _ _ _ _ _ _ HO.out) Tryd.underlying31 rfl (by rw [hVl]; rfl)) rfl ⟨rfl, ?_⟩
  exact hHeld2.1
set_option linter.unusedSimpArgs false in
set_option maxRecDepth 100000 in
set_option maxHeartbeats 4000000 in
theorem runround_core (T1 T2 X Y A B C D : List Value) (w : World) (hT1 : T1.length = 256) (hT2 : T2.length = 256) (hX : X.length = 16) (hY : Y.length = 16) (hD : D.length = 16) (oD : Hid (D.toArray.all (·.oneCell') = true))
    (c1 : Hid (∀ w, Calls Tryd.prog 47 #[.agg X.toArray, .agg Y.toArray] w fun e w' => e = .returned (.agg A.toArray) ∧ Below w.heap.size w w'))
    (c2 : Hid (∀ w, Calls Tryd.prog 67 #[.agg A.toArray, .agg #[.int .u8 14, .int .u8 11, .int .u8 13, .int .u8 9]] w fun e w' => e = .returned (.agg B.toArray) ∧ Below w.heap.size w w'))
    (c3 : Hid (∀ w, Calls Tryd.prog 68 #[.agg B.toArray, .bool true] w fun e w' => e = .returned (.agg C.toArray) ∧ Below w.heap.size w w'))
    (c4 : Hid (∀ w, Calls Tryd.prog 69 #[.agg T2.toArray, .agg C.toArray] w fun e w' => e = .returned (.agg D.toArray) ∧ Below w.heap.size w w')) :
    Calls Tryd.prog 51 #[.agg (T1 ++ T2).toArray, .agg X.toArray, .agg Y.toArray] w fun e w' => e = .returned (.agg D.toArray) ∧ Below w.heap.size w w' := by
  obtain ⟨Z, hZ⟩ : ∃ Z, Z = bc 16 (fun _ => 0) := ⟨_, rfl⟩
  have hz := zero16
  rw [← hZ] at hz
  have hZl : Z.toArray.size = 16 := by rw [hZ, List.size_toArray, bc_len]
  have iT : (Tryd.prog.info? 36).map (·.size) = some T2.length := by rw [hT2]; rfl
  have iX : (Tryd.prog.info? 31).map (·.size) = some X.length := by rw [hX]; rfl
  have iY : (Tryd.prog.info? 31).map (·.size) = some Y.length := by rw [hY]; rfl
  have H0 := hide (RS.start w T1 T2 X Y Z hT1 hZl).2
  obtain ⟨B, hB⟩ : ∃ B, B = (T1 ++ T2).toArray := ⟨_, rfl⟩
  rw [← hB] at H0 ⊢
  have hVl : D.toArray.size = 16 := by rw [List.size_toArray, hD]
  clear hZ hB
  go_enter Tryd.func51, Tryd.ntmps51
  go_wp2_with fail
  refine wp_region_held_drew (S := RS w 256 T2 X Y) (by kernel_rfl) ?_ (fun hHeld => ?_)
  · exact ⟨H0.out.1.drew, H0.out.2⟩
  refine wpAnyH_take (i := 0) (v := ?_) rfl (by kernel_rfl) (by kernel_rfl) (by kernel_rfl) (fun _ _ _ h => h) (Or.inl ⟨by rfl, ?_⟩) (by assumption) ?_
  rotate_left
  · (intro w hSw; (try dsimp only at hSw); simp only [List.getElem_toArray, List.getElem_cons_zero]; go_simp; try with_reducible rfl)
  simp only [Act.put, List.getElem_toArray, List.getElem_cons_zero, List.setIfInBounds_toArray, List.set_cons_zero, List.set_cons_succ]
  refine wpAnyH_take (i := 1) rfl (by kernel_rfl) (by kernel_rfl) (by kernel_rfl) (fun _ _ _ h => h) (yieldsIf_load_mid (by rfl) _ _ rfl _ _ rfl T2 _ (fun w hSw => hSw.2.1) Tryd.underlying36 rfl iT) (by assumption) ?_
  simp only [Act.put, List.getElem_toArray, List.getElem_cons_succ, List.getElem_cons_zero, List.setIfInBounds_toArray, List.set_cons_zero, List.set_cons_succ]
  refine wpAnyH_take (i := 2) rfl (by kernel_rfl) (by kernel_rfl) (by kernel_rfl) (fun _ _ _ h => h) (yieldsIf_load_mid (by rfl) _ _ rfl _ _ rfl X _ (fun w hSw => hSw.2.2.1) Tryd.underlying31 rfl iX) (by assumption) ?_
  simp only [Act.put, List.getElem_toArray, List.getElem_cons_succ, List.getElem_cons_zero, List.setIfInBounds_toArray, List.set_cons_zero, List.set_cons_succ]
  refine wpAnyH_take (i := 3) rfl (by kernel_rfl) (by kernel_rfl) (by kernel_rfl) (fun _ _ _ h => h) (yieldsIf_load_mid (by rfl) _ _ rfl _ _ rfl Y _ (fun w hSw => hSw.2.2.2.1) Tryd.underlying31 rfl iY) (by assumption) ?_
  simp only [Act.put, List.getElem_toArray, List.getElem_cons_succ, List.getElem_cons_zero, List.setIfInBounds_toArray, List.set_cons_zero, List.set_cons_succ]
  refine wpAnyH_take (i := 5) (v := ?_) rfl (by kernel_rfl) (by kernel_rfl) (by kernel_rfl) (fun _ _ _ h => h) (Or.inl ⟨by rfl, ?_⟩) (by assumption) ?_
  rotate_left
  · (intro w hSw; (try dsimp only at hSw); simp only [List.getElem_toArray, List.getElem_cons_succ, List.getElem_cons_zero]; go_simp; try with_reducible rfl)
  simp only [Act.put, List.getElem_toArray, List.getElem_cons_succ, List.getElem_cons_zero, List.setIfInBounds_toArray, List.set_cons_zero, List.set_cons_succ]
  refine wpAnyH_ready (rs := [4]) (by kernel_rfl) (by simp) ?_
  refine AllReadyH.cons rfl (fun K hK => ?_) AllReadyH.nil
  simp only [List.getElem_toArray, List.getElem_cons_succ, List.getElem_cons_zero]
  go_simp
  refine (c1.out _).mono ?_
  rintro e x0 ⟨rfl, bb0⟩
  go_wp2_with fail
  refine hK.out _ _ ?_ (fun hHeld => ?_)
  · exact RS.later hHeld bb0
  clear hK K
  try simp only [Act.put, List.setIfInBounds_toArray, List.set_cons_zero, List.set_cons_succ]
  refine wpAnyH_ready (rs := [6]) (by kernel_rfl) (by simp) ?_
  refine AllReadyH.cons rfl (fun K hK => ?_) AllReadyH.nil
  simp only [List.getElem_toArray, List.getElem_cons_succ, List.getElem_cons_zero]
  go_simp
  refine (c2.out _).mono ?_
  rintro e x1 ⟨rfl, bb1⟩
  go_wp2_with fail
  refine hK.out _ _ ?_ (fun hHeld => ?_)
  · exact RS.later hHeld bb1
  clear hK K
  try simp only [Act.put, List.setIfInBounds_toArray, List.set_cons_zero, List.set_cons_succ]
  refine wpAnyH_ready (rs := [7]) (by kernel_rfl) (by simp) ?_
  refine AllReadyH.cons rfl (fun K hK => ?_) AllReadyH.nil
  simp only [List.getElem_toArray, List.getElem_cons_succ, List.getElem_cons_zero]
  go_simp
  refine (c3.out _).mono ?_
  rintro e x2 ⟨rfl, bb2⟩
  go_wp2_with fail
  refine hK.out _ _ ?_ (fun hHeld => ?_)
  · exact RS.later hHeld bb2
  clear hK K
  try simp only [Act.put, List.setIfInBounds_toArray, List.set_cons_zero, List.set_cons_succ]
  refine wpAnyH_ready (rs := [8]) (by kernel_rfl) (by simp) ?_
  refine AllReadyH.cons rfl (fun K hK => ?_) AllReadyH.nil
  simp only [List.getElem_toArray, List.getElem_cons_succ, List.getElem_cons_zero]
  go_simp
  refine (c4.out _).mono ?_
  rintro e x3 ⟨rfl, bb3⟩
  go_wp2_with fail
  refine hK.out _ _ ?_ (fun hHeld => ?_)
  · exact RS.later hHeld bb3
  clear hK K
  try simp only [Act.put, List.setIfInBounds_toArray, List.set_cons_zero, List.set_cons_succ]
  refine wpAnyH_ready (rs := [9]) (by kernel_rfl) (by simp) ?_
  refine AllReadyH.cons rfl (fun K hK => ?_) AllReadyH.nil
  rw [if_pos (by rfl)]
  simp only [List.getElem_toArray, List.getElem_cons_succ, List.getElem_cons_zero]
  obtain ⟨old, ho, hos⟩ := hHeld.2.2.2.2
  have HO := hide ho
  refine wp_store_row 31 _ _ rfl (w.heap.size + 1 + 1 + 1) D.toArray rfl rfl 31 old ho (by rw [hVl]; rfl) (by rw [hos, hVl]) oD.out (hK.out _ _ (RS.store hHeld D.toArray hVl) (fun hHeld2 => ?_))
  clear hK K
  try simp only [Act.put, List.setIfInBounds_toArray, List.set_cons_zero, List.set_cons_succ]
  refine wpAnyH_done (by kernel_rfl) ?_ _
  go_wp2
  refine bodyPost_ret (v := .agg D.toArray) (results_cell_row rfl _ _ (w.heap.size + 1 + 1 + 1) 31 D.toArray (0, 0) _ rfl (setRow_heap _ _ _ _ _ _ HO.out) Tryd.underlying31 rfl (by rw [hVl]; rfl)) rfl ⟨rfl, ?_⟩
  exact hHeld2.1
set_option linter.unusedSimpArgs false in
set_option maxRecDepth 100000 in
set_option maxHeartbeats 4000000 in
theorem runlast_core (T1 T2 X Y A B D : List Value) (w : World) (hT1 : T1.length = 256) (hT2 : T2.length = 256) (hX : X.length = 16) (hY : Y.length = 16) (hD : D.length = 16) (oD : Hid (D.toArray.all (·.oneCell') = true))
    (c1 : Hid (∀ w, Calls Tryd.prog 47 #[.agg X.toArray, .agg Y.toArray] w fun e w' => e = .returned (.agg A.toArray) ∧ Below w.heap.size w w'))
    (c2 : Hid (∀ w, Calls Tryd.prog 68 #[.agg A.toArray, .bool true] w fun e w' => e = .returned (.agg B.toArray) ∧ Below w.heap.size w w'))
    (c3 : Hid (∀ w, Calls Tryd.prog 69 #[.agg T2.toArray, .agg B.toArray] w fun e w' => e = .returned (.agg D.toArray) ∧ Below w.heap.size w w')) :
    Calls Tryd.prog 50 #[.agg (T1 ++ T2).toArray, .agg X.toArray, .agg Y.toArray] w fun e w' => e = .returned (.agg D.toArray) ∧ Below w.heap.size w w' := by
  obtain ⟨Z, hZ⟩ : ∃ Z, Z = bc 16 (fun _ => 0) := ⟨_, rfl⟩
  have hz := zero16
  rw [← hZ] at hz
  have hZl : Z.toArray.size = 16 := by rw [hZ, List.size_toArray, bc_len]
  have iT : (Tryd.prog.info? 36).map (·.size) = some T2.length := by rw [hT2]; rfl
  have iX : (Tryd.prog.info? 31).map (·.size) = some X.length := by rw [hX]; rfl
  have iY : (Tryd.prog.info? 31).map (·.size) = some Y.length := by rw [hY]; rfl
  have H0 := hide (RS.start w T1 T2 X Y Z hT1 hZl).2
  obtain ⟨B, hB⟩ : ∃ B, B = (T1 ++ T2).toArray := ⟨_, rfl⟩
  rw [← hB] at H0 ⊢
  have hVl : D.toArray.size = 16 := by rw [List.size_toArray, hD]
  clear hZ hB
  go_enter Tryd.func50, Tryd.ntmps50
  go_wp2_with fail
  refine wp_region_held_drew (S := RS w 256 T2 X Y) (by kernel_rfl) ?_ (fun hHeld => ?_)
  · exact ⟨H0.out.1.drew, H0.out.2⟩
  refine wpAnyH_take (i := 0) (v := ?_) rfl (by kernel_rfl) (by kernel_rfl) (by kernel_rfl) (fun _ _ _ h => h) (Or.inl ⟨by rfl, ?_⟩) (by assumption) ?_
  rotate_left
  · (intro w hSw; (try dsimp only at hSw); simp only [List.getElem_toArray, List.getElem_cons_zero]; go_simp; try with_reducible rfl)
  simp only [Act.put, List.getElem_toArray, List.getElem_cons_zero, List.setIfInBounds_toArray, List.set_cons_zero, List.set_cons_succ]
  refine wpAnyH_take (i := 1) rfl (by kernel_rfl) (by kernel_rfl) (by kernel_rfl) (fun _ _ _ h => h) (yieldsIf_load_mid (by rfl) _ _ rfl _ _ rfl T2 _ (fun w hSw => hSw.2.1) Tryd.underlying36 rfl iT) (by assumption) ?_
  simp only [Act.put, List.getElem_toArray, List.getElem_cons_succ, List.getElem_cons_zero, List.setIfInBounds_toArray, List.set_cons_zero, List.set_cons_succ]
  refine wpAnyH_take (i := 2) rfl (by kernel_rfl) (by kernel_rfl) (by kernel_rfl) (fun _ _ _ h => h) (yieldsIf_load_mid (by rfl) _ _ rfl _ _ rfl X _ (fun w hSw => hSw.2.2.1) Tryd.underlying31 rfl iX) (by assumption) ?_
  simp only [Act.put, List.getElem_toArray, List.getElem_cons_succ, List.getElem_cons_zero, List.setIfInBounds_toArray, List.set_cons_zero, List.set_cons_succ]
  refine wpAnyH_take (i := 3) rfl (by kernel_rfl) (by kernel_rfl) (by kernel_rfl) (fun _ _ _ h => h) (yieldsIf_load_mid (by rfl) _ _ rfl _ _ rfl Y _ (fun w hSw => hSw.2.2.2.1) Tryd.underlying31 rfl iY) (by assumption) ?_
  simp only [Act.put, List.getElem_toArray, List.getElem_cons_succ, List.getElem_cons_zero, List.setIfInBounds_toArray, List.set_cons_zero, List.set_cons_succ]
  refine wpAnyH_ready (rs := [4]) (by kernel_rfl) (by simp) ?_
  refine AllReadyH.cons rfl (fun K hK => ?_) AllReadyH.nil
  simp only [List.getElem_toArray, List.getElem_cons_succ, List.getElem_cons_zero]
  go_simp
  refine (c1.out _).mono ?_
  rintro e x0 ⟨rfl, bb0⟩
  go_wp2_with fail
  refine hK.out _ _ ?_ (fun hHeld => ?_)
  · exact RS.later hHeld bb0
  clear hK K
  try simp only [Act.put, List.setIfInBounds_toArray, List.set_cons_zero, List.set_cons_succ]
  refine wpAnyH_ready (rs := [5]) (by kernel_rfl) (by simp) ?_
  refine AllReadyH.cons rfl (fun K hK => ?_) AllReadyH.nil
  simp only [List.getElem_toArray, List.getElem_cons_succ, List.getElem_cons_zero]
  go_simp
  refine (c2.out _).mono ?_
  rintro e x1 ⟨rfl, bb1⟩
  go_wp2_with fail
  refine hK.out _ _ ?_ (fun hHeld => ?_)
  · exact RS.later hHeld bb1
  clear hK K
  try simp only [Act.put, List.setIfInBounds_toArray, List.set_cons_zero, List.set_cons_succ]
  refine wpAnyH_ready (rs := [6]) (by kernel_rfl) (by simp) ?_
  refine AllReadyH.cons rfl (fun K hK => ?_) AllReadyH.nil
  simp only [List.getElem_toArray, List.getElem_cons_succ, List.getElem_cons_zero]
  go_simp
  refine (c3.out _).mono ?_
  rintro e x2 ⟨rfl, bb2⟩
  go_wp2_with fail
  refine hK.out _ _ ?_ (fun hHeld => ?_)
  · exact RS.later hHeld bb2
  clear hK K
  try simp only [Act.put, List.setIfInBounds_toArray, List.set_cons_zero, List.set_cons_succ]
  refine wpAnyH_ready (rs := [7]) (by kernel_rfl) (by simp) ?_
  refine AllReadyH.cons rfl (fun K hK => ?_) AllReadyH.nil
  rw [if_pos (by rfl)]
  simp only [List.getElem_toArray, List.getElem_cons_succ, List.getElem_cons_zero]
  obtain ⟨old, ho, hos⟩ := hHeld.2.2.2.2
  have HO := hide ho
  refine wp_store_row 31 _ _ rfl (w.heap.size + 1 + 1 + 1) D.toArray rfl rfl 31 old ho (by rw [hVl]; rfl) (by rw [hos, hVl]) oD.out (hK.out _ _ (RS.store hHeld D.toArray hVl) (fun hHeld2 => ?_))
  clear hK K
  try simp only [Act.put, List.setIfInBounds_toArray, List.set_cons_zero, List.set_cons_succ]
  refine wpAnyH_done (by kernel_rfl) ?_ _
  go_wp2
  refine bodyPost_ret (v := .agg D.toArray) (results_cell_row rfl _ _ (w.heap.size + 1 + 1 + 1) 31 D.toArray (0, 0) _ rfl (setRow_heap _ _ _ _ _ _ HO.out) Tryd.underlying31 rfl (by rw [hVl]; rfl)) rfl ⟨rfl, ?_⟩
  exact hHeld2.1
end Go.Proofs.YtlkihbmkekadeaaDoor
