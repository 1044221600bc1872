/- Own: awake of layer 4's statements (no statement is proved here). -/
import Derived.Test.YtplcboblokgihaaDoorAZero
namespace Go.Proofs.YtplcboblokgihaaDoor
open Go.ChangeShapes Go.WideShapes Go.ChangeAt Go.RowKit

theorem isz (w : World) : IsB (w.alloc (.cells (bcells (List.replicate 16 0)).toArray 5)) (.slice (some ⟨w.heap.size, 0, none⟩) 16 16) (List.replicate 16 0) :=
  OwnB.isB (base := w.heap.size) ⟨by decide, w.heap.size, Nat.le_refl _, rfl, heap_alloc_new _ _⟩
set_option linter.unusedSimpArgs false in
set_option maxRecDepth 100000 in
set_option maxHeartbeats 1600000 in
theorem awake4_core (X : Array Value) (F : Nat → Nat) (w : World) (hX : X.size = 16) (oX : Hid (X.all (·.oneCell') = true)) (hz : ∀ w, (zeroValue 31).run Tryd.prog w = .ok (.agg #[.int .u8 0, .int .u8 0, .int .u8 0, .int .u8 0, .int .u8 0, .int .u8 0, .int .u8 0, .int .u8 0, .int .u8 0, .int .u8 0, .int .u8 0, .int .u8 0, .int .u8 0, .int .u8 0, .int .u8 0, .int .u8 0]) w)
    (x0 : Hid (X[0]? = some (.int .u8 102))) (x1 : Hid (X[1]? = some (.int .u8 233))) (x15 : Hid (X[15]? = some (.int .u8 46)))
    (cT : Hid (∀ w', Below w.heap.size w w' → Calls Tryd.prog 11 #[] w' fun e w'' => (∃ g, e = .returned (.pointer (some ⟨g, 0, none⟩)) ∧ IsTab w'' g) ∧ Below w'.heap.size w' w''))
    (cE : Hid (∀ g w' v, IsTab w' g → IsB w' v (List.replicate 16 0) → Calls Tryd.prog 10 #[.pointer (some ⟨g, 0, none⟩), v] w' fun e w'' => (∃ q, e = .returned (.tuple #[.pointer (some ⟨q, 0, none⟩), .int .i64 0]) ∧ IsKey w'' q g 10 F ∧ IsTab w'' g) ∧ Below w'.heap.size w' w''))
    (cN : Hid (∀ q g w', IsKey w' q g 10 F ∧ IsTab w' g → Calls Tryd.prog 19 #[.pointer (some ⟨q, 0, none⟩), .agg #[.int .u8 0, .int .u8 0, .int .u8 0, .int .u8 0, .int .u8 0, .int .u8 0, .int .u8 0, .int .u8 0, .int .u8 0, .int .u8 0, .int .u8 0, .int .u8 0, .int .u8 0, .int .u8 0, .int .u8 0, .int .u8 0]] w' fun e w'' => e = .returned (.agg X) ∧ Below w'.heap.size w' w'')) :
    Calls Tryd.prog 15 #[] w fun e w' => e = .returned (.bool true) ∧ Below w.heap.size w w' := by
  have hmk : ∀ w, (Instr.makeSlice 22 (.int .i64 16) (.int .i64 16)).run Tryd.prog w = .ok (.slice (some ⟨w.heap.size, 0, none⟩) 16 16) (w.alloc (.cells (bcells (List.replicate 16 0)).toArray 5)) := fun w => omake_any 16 (by decide) w
  go_enter Tryd.func15, Tryd.ntmps15
  go_wp2_with fail
  refine wp_region_held_drew (S := fun _ => True) (by kernel_rfl) ?_ (fun hHeld => ?_)
  · trivial
  refine wpAnyH_ready (rs := [0, 1]) (by kernel_rfl) (by simp) ?_
  refine AllReadyH.cons rfl (fun K hK => ?_) (AllReadyH.cons rfl (fun K hK => ?_) AllReadyH.nil)
  · simp only [List.getElem_toArray, List.getElem_cons_zero]
    go_simp
    refine (cT.out _ (Below.refl _ _).drew).mono ?_
    rintro e w1 ⟨⟨g, rfl, ht⟩, b1⟩
    go_wp2_with fail
    refine hK.out _ _ trivial (fun hHeld => ?_)
    clear hK K
    try simp only [Act.put, List.setIfInBounds_toArray, List.set_cons_zero, List.set_cons_succ]
    refine wpAnyH_ready (rs := [1]) (by kernel_rfl) (by simp) ?_
    refine AllReadyH.cons rfl (fun K hK => ?_) AllReadyH.nil
    simp only [List.getElem_toArray, List.getElem_cons_succ, List.getElem_cons_zero]
    go_simp
    refine hK.out _ _ trivial (fun hHeld => ?_)
    clear hK K
    try simp only [Act.put, List.setIfInBounds_toArray, List.set_cons_zero, List.set_cons_succ]
    refine wpAnyH_ready (rs := [2]) (by kernel_rfl) (by simp) ?_
    refine AllReadyH.cons rfl (fun K hK => ?_) AllReadyH.nil
    simp only [List.getElem_toArray, List.getElem_cons_succ, List.getElem_cons_zero]
    go_simp
    refine (cE.out g _ _ (ht.later (below_alloc (Below.refl _ _) _)) (isz _)).mono ?_
    rintro e w3 ⟨⟨q, rfl, hk⟩, b3⟩
    go_wp2_with fail
    refine hK.out _ _ ?_ (fun hHeld => ?_)
    · trivial
    clear hK K
    try simp only [Act.put, List.setIfInBounds_toArray, List.set_cons_zero, List.set_cons_succ]
    refine wpAnyH_take (i := 3) (v := ?_) rfl (by kernel_rfl) (by kernel_rfl) (by kernel_rfl) (fun _ _ _ h => h) (Or.inl ⟨by rfl, ?_⟩) (by assumption) ?_
    rotate_left
    · (intro w hSw; (try dsimp only at hSw); simp only [List.getElem_toArray, List.getElem_cons_succ, List.getElem_cons_zero]; go_simp; try with_reducible rfl)
    simp only [Act.put, List.getElem_toArray, List.getElem_cons_succ, List.getElem_cons_zero, List.setIfInBounds_toArray, List.set_cons_zero, List.set_cons_succ]
    refine wpAnyH_take (i := 4) (v := ?_) rfl (by kernel_rfl) (by kernel_rfl) (by kernel_rfl) (fun _ _ _ h => h) (Or.inl ⟨by rfl, ?_⟩) (by assumption) ?_
    rotate_left
    · (intro w hSw; (try dsimp only at hSw); simp only [List.getElem_toArray, List.getElem_cons_succ, List.getElem_cons_zero]; go_simp; try with_reducible rfl)
    simp only [Act.put, List.getElem_toArray, List.getElem_cons_succ, List.getElem_cons_zero, List.setIfInBounds_toArray, List.set_cons_zero, List.set_cons_succ]
    refine wpAnyH_take (i := 5) (v := ?_) rfl (by kernel_rfl) (by kernel_rfl) (by kernel_rfl) (fun _ _ _ h => h) (Or.inl ⟨by rfl, ?_⟩) (by assumption) ?_
    rotate_left
    · (intro w hSw; (try dsimp only at hSw); simp only [List.getElem_toArray, List.getElem_cons_succ, List.getElem_cons_zero]; go_simp; try with_reducible rfl)
    simp only [Act.put, List.getElem_toArray, List.getElem_cons_succ, List.getElem_cons_zero, List.setIfInBounds_toArray, List.set_cons_zero, List.set_cons_succ]
    refine wpAnyH_take (i := 6) (v := ?_) rfl (by kernel_rfl) (by kernel_rfl) (by kernel_rfl) (fun _ _ _ h => h) (Or.inl ⟨by rfl, ?_⟩) (by assumption) ?_
    rotate_left
    · (intro w hSw; (try dsimp only at hSw); simp only [List.getElem_toArray, List.getElem_cons_succ, List.getElem_cons_zero]; go_simp; try with_reducible rfl)
    simp only [Act.put, List.getElem_toArray, List.getElem_cons_succ, List.getElem_cons_zero, List.setIfInBounds_toArray, List.set_cons_zero, List.set_cons_succ]
    refine wpAnyH_take (i := 7) (v := ?_) rfl (by kernel_rfl) (by kernel_rfl) (by kernel_rfl) (fun _ _ _ h => h) (Or.inl ⟨by rfl, ?_⟩) (by assumption) ?_
    rotate_left
    · (intro w hSw; (try dsimp only at hSw); simp only [List.getElem_toArray, List.getElem_cons_succ, List.getElem_cons_zero]; go_simp; try with_reducible rfl)
    simp only [Act.put, List.getElem_toArray, List.getElem_cons_succ, List.getElem_cons_zero, List.setIfInBounds_toArray, List.set_cons_zero, List.set_cons_succ]
    refine wpAnyH_done (by kernel_rfl) ?_ _
    have B3 := hide (below_two (below_alloc (below_two (Below.refl _ _).drew b1) _) b3)
    have HK := hide hk
    clear hk b3
    go_wp2_with fail
    refine (cN.out _ _ _ HK.out).mono ?_
    rintro e w4 ⟨rfl, b4⟩
    obtain ⟨nb, nr⟩ := new_row w4 #[.int .u8 0, .int .u8 0, .int .u8 0, .int .u8 0, .int .u8 0, .int .u8 0, .int .u8 0, .int .u8 0, .int .u8 0, .int .u8 0, .int .u8 0, .int .u8 0, .int .u8 0, .int .u8 0, .int .u8 0, .int .u8 0] X 31
    have HK5 := (HK.out.1.later b4).later nb
    have B5 := hide (below_two (below_two B3.out b4) nb)
    have c0 : ((w4.alloc (.cells #[.int .u8 0, .int .u8 0, .int .u8 0, .int .u8 0, .int .u8 0, .int .u8 0, .int .u8 0, .int .u8 0, .int .u8 0, .int .u8 0, .int .u8 0, .int .u8 0, .int .u8 0, .int .u8 0, .int .u8 0, .int .u8 0] 31)).setRow w4.heap.size X).cell? ⟨w4.heap.size, 0, none⟩ = some (.int .u8 102) := by rw [cell_of_row _ _ _ _ _ _ nr]; exact x0.out
    have c1 : ((w4.alloc (.cells #[.int .u8 0, .int .u8 0, .int .u8 0, .int .u8 0, .int .u8 0, .int .u8 0, .int .u8 0, .int .u8 0, .int .u8 0, .int .u8 0, .int .u8 0, .int .u8 0, .int .u8 0, .int .u8 0, .int .u8 0, .int .u8 0] 31)).setRow w4.heap.size X).cell? ⟨w4.heap.size, 1, none⟩ = some (.int .u8 233) := by rw [cell_of_row _ _ _ _ _ _ nr]; exact x1.out
    have c15 : ((w4.alloc (.cells #[.int .u8 0, .int .u8 0, .int .u8 0, .int .u8 0, .int .u8 0, .int .u8 0, .int .u8 0, .int .u8 0, .int .u8 0, .int .u8 0, .int .u8 0, .int .u8 0, .int .u8 0, .int .u8 0, .int .u8 0, .int .u8 0] 31)).setRow w4.heap.size X).cell? ⟨w4.heap.size, 15, none⟩ = some (.int .u8 46) := by rw [cell_of_row _ _ _ _ _ _ nr]; exact x15.out
    have KR := hide (key_rounds _ _ _ _ _ HK5)
    clear nb nr b4 HK5
    go_wp2_with (refine wpList_store_row rfl 31 _ _ rfl w4.heap.size X rfl rfl 31 _ (heap_alloc_new _ _) (by rw [hX]; rfl) (by rw [hX]; rfl) oX.out ?_)
    refine (KR.out).mono ?_
    rintro e w6 ⟨rfl, rfl⟩
    go_wp2
    go_ret
    exact ⟨rfl, B5.out⟩
  · simp only [List.getElem_toArray, List.getElem_cons_succ, List.getElem_cons_zero]
    go_simp
    refine hK.out _ _ trivial (fun hHeld => ?_)
    clear hK K
    try simp only [Act.put, List.setIfInBounds_toArray, List.set_cons_zero, List.set_cons_succ]
    refine wpAnyH_ready (rs := [0]) (by kernel_rfl) (by simp) ?_
    refine AllReadyH.cons rfl (fun K hK => ?_) AllReadyH.nil
    simp only [List.getElem_toArray, List.getElem_cons_zero]
    go_simp
    refine (cT.out _ (below_alloc (Below.refl _ _).drew _)).mono ?_
    rintro e w1 ⟨⟨g, rfl, ht⟩, b1⟩
    go_wp2_with fail
    refine hK.out _ _ trivial (fun hHeld => ?_)
    clear hK K
    try simp only [Act.put, List.setIfInBounds_toArray, List.set_cons_zero, List.set_cons_succ]
    refine wpAnyH_ready (rs := [2]) (by kernel_rfl) (by simp) ?_
    refine AllReadyH.cons rfl (fun K hK => ?_) AllReadyH.nil
    simp only [List.getElem_toArray, List.getElem_cons_succ, List.getElem_cons_zero]
    go_simp
    refine (cE.out g _ _ ht ((isz _).later b1)).mono ?_
    rintro e w3 ⟨⟨q, rfl, hk⟩, b3⟩
    go_wp2_with fail
    refine hK.out _ _ ?_ (fun hHeld => ?_)
    · trivial
    clear hK K
    try simp only [Act.put, List.setIfInBounds_toArray, List.set_cons_zero, List.set_cons_succ]
    refine wpAnyH_take (i := 3) (v := ?_) rfl (by kernel_rfl) (by kernel_rfl) (by kernel_rfl) (fun _ _ _ h => h) (Or.inl ⟨by rfl, ?_⟩) (by assumption) ?_
    rotate_left
    · (intro w hSw; (try dsimp only at hSw); simp only [List.getElem_toArray, List.getElem_cons_succ, List.getElem_cons_zero]; go_simp; try with_reducible rfl)
    simp only [Act.put, List.getElem_toArray, List.getElem_cons_succ, List.getElem_cons_zero, List.setIfInBounds_toArray, List.set_cons_zero, List.set_cons_succ]
    refine wpAnyH_take (i := 4) (v := ?_) rfl (by kernel_rfl) (by kernel_rfl) (by kernel_rfl) (fun _ _ _ h => h) (Or.inl ⟨by rfl, ?_⟩) (by assumption) ?_
    rotate_left
    · (intro w hSw; (try dsimp only at hSw); simp only [List.getElem_toArray, List.getElem_cons_succ, List.getElem_cons_zero]; go_simp; try with_reducible rfl)
    simp only [Act.put, List.getElem_toArray, List.getElem_cons_succ, List.getElem_cons_zero, List.setIfInBounds_toArray, List.set_cons_zero, List.set_cons_succ]
    refine wpAnyH_take (i := 5) (v := ?_) rfl (by kernel_rfl) (by kernel_rfl) (by kernel_rfl) (fun _ _ _ h => h) (Or.inl ⟨by rfl, ?_⟩) (by assumption) ?_
    rotate_left
    · (intro w hSw; (try dsimp only at hSw); simp only [List.getElem_toArray, List.getElem_cons_succ, List.getElem_cons_zero]; go_simp; try with_reducible rfl)
    simp only [Act.put, List.getElem_toArray, List.getElem_cons_succ, List.getElem_cons_zero, List.setIfInBounds_toArray, List.set_cons_zero, List.set_cons_succ]
    refine wpAnyH_take (i := 6) (v := ?_) rfl (by kernel_rfl) (by kernel_rfl) (by kernel_rfl) (fun _ _ _ h => h) (Or.inl ⟨by rfl, ?_⟩) (by assumption) ?_
    rotate_left
    · (intro w hSw; (try dsimp only at hSw); simp only [List.getElem_toArray, List.getElem_cons_succ, List.getElem_cons_zero]; go_simp; try with_reducible rfl)
    simp only [Act.put, List.getElem_toArray, List.getElem_cons_succ, List.getElem_cons_zero, List.setIfInBounds_toArray, List.set_cons_zero, List.set_cons_succ]
    refine wpAnyH_take (i := 7) (v := ?_) rfl (by kernel_rfl) (by kernel_rfl) (by kernel_rfl) (fun _ _ _ h => h) (Or.inl ⟨by rfl, ?_⟩) (by assumption) ?_
    rotate_left
    · (intro w hSw; (try dsimp only at hSw); simp only [List.getElem_toArray, List.getElem_cons_succ, List.getElem_cons_zero]; go_simp; try with_reducible rfl)
    simp only [Act.put, List.getElem_toArray, List.getElem_cons_succ, List.getElem_cons_zero, List.setIfInBounds_toArray, List.set_cons_zero, List.set_cons_succ]
    refine wpAnyH_done (by kernel_rfl) ?_ _
    have B3 := hide (below_two (below_two (below_alloc (Below.refl _ _).drew _) b1) b3)
    have HK := hide hk
    clear hk b3
    go_wp2_with fail
    refine (cN.out _ _ _ HK.out).mono ?_
    rintro e w4 ⟨rfl, b4⟩
    obtain ⟨nb, nr⟩ := new_row w4 #[.int .u8 0, .int .u8 0, .int .u8 0, .int .u8 0, .int .u8 0, .int .u8 0, .int .u8 0, .int .u8 0, .int .u8 0, .int .u8 0, .int .u8 0, .int .u8 0, .int .u8 0, .int .u8 0, .int .u8 0, .int .u8 0] X 31
    have HK5 := (HK.out.1.later b4).later nb
    have B5 := hide (below_two (below_two B3.out b4) nb)
    have c0 : ((w4.alloc (.cells #[.int .u8 0, .int .u8 0, .int .u8 0, .int .u8 0, .int .u8 0, .int .u8 0, .int .u8 0, .int .u8 0, .int .u8 0, .int .u8 0, .int .u8 0, .int .u8 0, .int .u8 0, .int .u8 0, .int .u8 0, .int .u8 0] 31)).setRow w4.heap.size X).cell? ⟨w4.heap.size, 0, none⟩ = some (.int .u8 102) := by rw [cell_of_row _ _ _ _ _ _ nr]; exact x0.out
    have c1 : ((w4.alloc (.cells #[.int .u8 0, .int .u8 0, .int .u8 0, .int .u8 0, .int .u8 0, .int .u8 0, .int .u8 0, .int .u8 0, .int .u8 0, .int .u8 0, .int .u8 0, .int .u8 0, .int .u8 0, .int .u8 0, .int .u8 0, .int .u8 0] 31)).setRow w4.heap.size X).cell? ⟨w4.heap.size, 1, none⟩ = some (.int .u8 233) := by rw [cell_of_row _ _ _ _ _ _ nr]; exact x1.out
    have c15 : ((w4.alloc (.cells #[.int .u8 0, .int .u8 0, .int .u8 0, .int .u8 0, .int .u8 0, .int .u8 0, .int .u8 0, .int .u8 0, .int .u8 0, .int .u8 0, .int .u8 0, .int .u8 0, .int .u8 0, .int .u8 0, .int .u8 0, .int .u8 0] 31)).setRow w4.heap.size X).cell? ⟨w4.heap.size, 15, none⟩ = some (.int .u8 46) := by rw [cell_of_row _ _ _ _ _ _ nr]; exact x15.out
    have KR := hide (key_rounds _ _ _ _ _ HK5)
    clear nb nr b4 HK5
    go_wp2_with (refine wpList_store_row rfl 31 _ _ rfl w4.heap.size X rfl rfl 31 _ (heap_alloc_new _ _) (by rw [hX]; rfl) (by rw [hX]; rfl) oX.out ?_)
    refine (KR.out).mono ?_
    rintro e w6 ⟨rfl, rfl⟩
    go_wp2
    go_ret
    exact ⟨rfl, B5.out⟩
theorem lf_noughts : lf (List.replicate 16 0) = fun _ => 0 := funext fun i => by
  unfold lf
  by_cases h : i < 16
  · rw [List.getD_eq_getElem?_getD, List.getElem?_replicate, if_pos h]; rfl
  · rw [List.getD_eq_getElem?_getD, List.getElem?_replicate, if_neg h]; rfl
theorem awake4_any (w : World) (hl : Laid w) : Calls Tryd.prog 15 #[] w fun e w' => e = .returned (.bool true) ∧ Below w.heap.size w w' := by
  have gt : ∀ f i x, i < 16 → f i = x → (bc 16 f).toArray[i]? = some (.int .u8 (x : Nat)) := fun f i x hi hx => by rw [← hx]; simpa using bc_get 16 f i hi
  have hF : Byt (eb (fun _ => 0) 4 40) := eb_byt zero_byt 4 40
  refine awake4_core (bc 16 (encB (eb (fun _ => 0) 4 40) 10 fun _ => 0)).toArray (eb (fun _ => 0) 4 40) w (by rw [List.size_toArray, bc_len]) (bc_one _ _) zero16
    (gt _ 0 102 (by decide) ((zero_enc 0 (by decide)).trans zEnd.1)) (gt _ 1 233 (by decide) ((zero_enc 1 (by decide)).trans zEnd.2.1)) (gt _ 15 46 (by decide) ((zero_enc 15 (by decide)).trans zEnd.2.2))
    (fun w' hb => tables_any w' (hl.later hb)) (fun g w' v ht hv => ?_) (fun q g w' h => encrypt_any q g 10 _ _ hF zero_byt w' h.1 h.2 (by decide) (by decide))
  refine (expand_any g v _ w' hv ht 10 rfl (by decide)).mono ?_
  rintro e w'' ⟨rfl, hb, hk⟩
  rw [lf_noughts] at hk
  exact ⟨⟨_, rfl, hk, ht.later hb⟩, hb⟩
end Go.Proofs.YtplcboblokgihaaDoor
