/- Own: Encrypt of layer 4; Decrypt of layer 4; Decrypt of layer 4 by its contract; there and back (no statement is proved here). -/
import Derived.Test.YtdfbcdgneboilaaDoorOA2
namespace Go.Proofs.YtdfbcdgneboilaaDoor
open Go.ChangeShapes Go.WideShapes Go.ChangeAt Go.RowKit
set_option maxRecDepth 20000

set_option linter.unusedSimpArgs false in
set_option maxRecDepth 100000 in
set_option maxHeartbeats 4000000 in
theorem encrypt_core (k g r q : Nat) (F : Nat → Nat) (X X1 X2 X3 K0 Kr : List Value) (w : World) (hk : IsKey w k g r F) (hr : 0 < r) (hr2 : r < 15) (hq : q = r - 1)
    (sX : X.toArray.size = 16) (sX1 : X1.toArray.size = 16) (sX2 : X2.toArray.size = 16) (sX3 : X3.toArray.size = 16)
    (oX1 : Hid (X1.toArray.all (·.oneCell') = true)) (oX2 : Hid (X2.toArray.all (·.oneCell') = true)) (oX3 : Hid (X3.toArray.all (·.oneCell') = true))
    (iK0 : (Tryd.prog.info? 45).map (·.size) = some K0.length) (iKr : (Tryd.prog.info? 45).map (·.size) = some Kr.length)
    (hK0 : Hid (∀ w', IsKey w' k g r F → w'.rangeAt k 2 K0)) (hKr : Hid (∀ w', IsKey w' k g r F → w'.rangeAt k (2 + r * 16) Kr))
    (cS : Hid (∀ w', Calls Tryd.prog 31 #[.agg X.toArray, .agg K0.toArray] w' fun e w'' => e = .returned (.agg X1.toArray) ∧ Below w'.heap.size w' w''))
    (cR : Hid (∀ w', Below w.heap.size w w' → Calls Tryd.prog 32 #[.pointer (some ⟨g, 0, none⟩), .agg X1.toArray, .slice (some ⟨k, 18, none⟩) q 14] w' fun e w'' => e = .returned (.agg X2.toArray) ∧ Below w'.heap.size w' w''))
    (cL : Hid (∀ w', Below w.heap.size w w' → Calls Tryd.prog 33 #[.pointer (some ⟨g, 0, none⟩), .agg X2.toArray, .agg Kr.toArray] w' fun e w'' => e = .returned (.agg X3.toArray) ∧ Below w'.heap.size w' w'')) :
    Calls Tryd.prog 18 #[.pointer (some ⟨k, 0, none⟩), .agg X.toArray] w fun e w' => e = .returned (.agg X3.toArray) ∧ Below w.heap.size w w' := by
  obtain ⟨Z, hZ⟩ : ∃ Z, Z = bc 16 (fun _ => 0) := ⟨_, rfl⟩
  have hz := zero16
  rw [← hZ] at hz
  have sZ : Z.toArray.size = 16 := by rw [hZ, List.size_toArray, bc_len]
  have H1 : Hid (Below w.heap.size w ((w.alloc (.cells X.toArray 45)).alloc (.cells Z.toArray 45)) ∧ ((w.alloc (.cells X.toArray 45)).alloc (.cells Z.toArray 45)).heap[w.heap.size]? = some (.cells X.toArray 45 (0, 0)) ∧ ((w.alloc (.cells X.toArray 45)).alloc (.cells Z.toArray 45)).heap[w.heap.size + 1]? = some (.cells Z.toArray 45 (0, 0))) :=
    ⟨below_alloc (below_alloc (Below.refl _ _) _) _, heap_alloc2_old _ _ _, heap_alloc2_new _ _ _⟩
  have c1 := (IsKey.later hk H1.out.1).rounds
  have i1 : ¬ (r : Int) = 0 := by omega
  have i2 : (r : Int) ≤ 15 := by omega
  have i3 : (1 : Int) ≤ (r : Int) := by omega
  have i4 : ((r : Int) - 1).toNat = q := by omega
  have i5 : r - 1 = q := hq.symm
  have i6 : (r : Int) < 15 := by omega
  have i7 : r ≤ 15 := by omega
  clear hZ hq
  go_enter Tryd.func18, Tryd.ntmps18
  go_wp2_with fail
  obtain ⟨W1, hW1⟩ : ∃ W1, W1 = (w.alloc (.cells X.toArray 45)).alloc (.cells Z.toArray 45) := ⟨_, rfl⟩
  rw [← hW1] at H1 ⊢
  clear hW1 c1
  have G1 : IsKey W1 k g r F := IsKey.later hk H1.out.1
  have R1 := H1.out.2.1
  refine wp_region_held_drew (S := fun w' => IsKey w' k g r F) (by kernel_rfl) ?_ (fun hHeld => ?_)
  · exact G1
  refine wpAnyH_take (i := 1) (v := ?_) rfl (by kernel_rfl) (by kernel_rfl) (by kernel_rfl) (fun _ _ _ h => h) (Or.inl ⟨by rfl, ?_⟩) (by assumption) ?_
  rotate_left
  · (intro w hSw; (have c0 := IsKey.tab hSw); (have c1 := IsKey.rounds hSw); clear hSw; simp only [List.getElem_toArray, List.getElem_cons_succ, List.getElem_cons_zero]; go_simp; try with_reducible rfl)
  simp only [Act.put, List.getElem_toArray, List.getElem_cons_succ, List.getElem_cons_zero, List.setIfInBounds_toArray, List.set_cons_zero, List.set_cons_succ]
  refine wpAnyH_take (i := 2) (v := ?_) rfl (by kernel_rfl) (by kernel_rfl) (by kernel_rfl) (fun _ _ _ h => h) (Or.inl ⟨by rfl, ?_⟩) (by assumption) ?_
  rotate_left
  · (intro w hSw; (have c0 := IsKey.tab hSw); (have c1 := IsKey.rounds hSw); clear hSw; simp only [List.getElem_toArray, List.getElem_cons_succ, List.getElem_cons_zero]; go_simp; try with_reducible rfl)
  simp only [Act.put, List.getElem_toArray, List.getElem_cons_succ, List.getElem_cons_zero, List.setIfInBounds_toArray, List.set_cons_zero, List.set_cons_succ]
  refine wpAnyH_take (i := 3) (v := ?_) rfl (by kernel_rfl) (by kernel_rfl) (by kernel_rfl) (fun _ _ _ h => h) (Or.inl ⟨by rfl, ?_⟩) (by assumption) ?_
  rotate_left
  · (intro w hSw; (have c0 := IsKey.tab hSw); (have c1 := IsKey.rounds hSw); clear hSw; simp only [List.getElem_toArray, List.getElem_cons_succ, List.getElem_cons_zero]; go_simp; try with_reducible rfl)
  simp only [Act.put, List.getElem_toArray, List.getElem_cons_succ, List.getElem_cons_zero, List.setIfInBounds_toArray, List.set_cons_zero, List.set_cons_succ]
  refine wpAnyH_take (i := 4) (v := ?_) rfl (by kernel_rfl) (by kernel_rfl) (by kernel_rfl) (fun _ _ _ h => h) (Or.inl ⟨by rfl, ?_⟩) (by assumption) ?_
  rotate_left
  · (intro w hSw; (have c0 := IsKey.tab hSw); (have c1 := IsKey.rounds hSw); clear hSw; simp only [List.getElem_toArray, List.getElem_cons_succ, List.getElem_cons_zero]; go_simp; try with_reducible rfl)
  simp only [Act.put, List.getElem_toArray, List.getElem_cons_succ, List.getElem_cons_zero, List.setIfInBounds_toArray, List.set_cons_zero, List.set_cons_succ]
  refine wpAnyH_take (i := 5) rfl (by kernel_rfl) (by kernel_rfl) (by kernel_rfl) (fun _ _ _ h => h) (yieldsIf_load_mid (by rfl) _ _ rfl _ _ rfl K0 _ (fun w hSw => hK0.out w hSw) Tryd.underlying45 rfl iK0) (by assumption) ?_
  simp only [Act.put, List.getElem_toArray, List.getElem_cons_succ, List.getElem_cons_zero, List.setIfInBounds_toArray, List.set_cons_zero, List.set_cons_succ]
  refine wpAnyH_ready (rs := [0]) (by kernel_rfl) (by simp) ?_
  refine AllReadyH.cons rfl (fun K hK => ?_) AllReadyH.nil
  rw [if_pos (by rfl)]
  refine wp_load_row 45 _ rfl w.heap.size rfl 45 X.toArray (0, 0) _ R1 Tryd.underlying45 rfl (by rw [sX]; rfl) (hK.out _ _ G1 (fun hHeld => ?_))
  clear hK K
  try simp only [Act.put, List.setIfInBounds_toArray, List.set_cons_zero, List.set_cons_succ]
  refine wpAnyH_ready (rs := [6]) (by kernel_rfl) (by simp) ?_
  refine AllReadyH.cons rfl (fun K hK => ?_) AllReadyH.nil
  simp only [List.getElem_toArray, List.getElem_cons_succ, List.getElem_cons_zero]
  go_simp
  refine (cS.out _).mono ?_
  rintro e v1 ⟨rfl, bc1⟩
  go_wp2_with fail
  refine hK.out _ _ ?_ (fun hHeld => ?_)
  · exact IsKey.later (w := W1.drew) G1 bc1
  clear hK K
  try simp only [Act.put, List.setIfInBounds_toArray, List.set_cons_zero, List.set_cons_succ]
  have B1 := below_two H1.out.1.drew bc1
  have RX1 := (bc1.block _ (Array.getElem?_eq_some_iff.1 H1.out.2.1).1).trans H1.out.2.1
  have RZ1 := (bc1.block _ (Array.getElem?_eq_some_iff.1 H1.out.2.2).1).trans H1.out.2.2
  have GK1 : IsKey (v1.setRow (w.heap.size) X1.toArray) k g r F := IsKey.later hk (below_setRow B1 (by omega) _)
  refine wpAnyH_ready (rs := [7]) (by kernel_rfl) (by simp) ?_
  refine AllReadyH.cons rfl (fun K hK => ?_) AllReadyH.nil
  rw [if_pos (by rfl)]
  refine wp_store_row 45 _ _ rfl (w.heap.size) X1.toArray rfl rfl 45 X.toArray RX1 (by rw [sX1]; rfl) (by rw [sX1, sX]) oX1.out (hK.out _ _ GK1 (fun hHeld => ?_))
  clear hK K
  try simp only [Act.put, List.setIfInBounds_toArray, List.set_cons_zero, List.set_cons_succ]
  refine wpAnyH_done (by kernel_rfl) ?_ _
  have H2 : Hid (Below w.heap.size w (v1.setRow w.heap.size X1.toArray) ∧ (v1.setRow w.heap.size X1.toArray).heap[w.heap.size]? = some (.cells X1.toArray 45 (0, 0)) ∧ (v1.setRow w.heap.size X1.toArray).heap[w.heap.size + 1]? = some (.cells Z.toArray 45 (0, 0))) := ⟨below_setRow B1 (by omega) _, setRow_heap _ _ _ _ _ _ RX1, (setRow_other _ _ _ _ (by omega)).trans RZ1⟩
  obtain ⟨W2, hW2⟩ : ∃ W2, W2 = v1.setRow w.heap.size X1.toArray := ⟨_, rfl⟩
  rw [← hW2] at H2 ⊢
  clear hW2 GK1 RX1 RZ1 B1 bc1 G1 R1 hHeld
  go_wp2_with fail
  have G2 : IsKey W2 k g r F := IsKey.later hk H2.out.1
  have R2 := H2.out.2.1
  refine wp_region_held_drew (S := fun w' => IsKey w' k g r F) (by kernel_rfl) ?_ (fun hHeld => ?_)
  · exact G2
  refine wpAnyH_take (i := 0) (v := ?_) rfl (by kernel_rfl) (by kernel_rfl) (by kernel_rfl) (fun _ _ _ h => h) (Or.inl ⟨by rfl, ?_⟩) (by assumption) ?_
  rotate_left
  · (intro w hSw; (have c0 := IsKey.tab hSw); (have c1 := IsKey.rounds hSw); clear hSw; simp only [List.getElem_toArray, List.getElem_cons_zero]; go_simp; try with_reducible rfl)
  simp only [Act.put, List.getElem_toArray, List.getElem_cons_zero, List.setIfInBounds_toArray, List.set_cons_zero, List.set_cons_succ]
  refine wpAnyH_take (i := 1) (v := ?_) rfl (by kernel_rfl) (by kernel_rfl) (by kernel_rfl) (fun _ _ _ h => h) (Or.inl ⟨by rfl, ?_⟩) (by assumption) ?_
  rotate_left
  · (intro w hSw; (have c0 := IsKey.tab hSw); (have c1 := IsKey.rounds hSw); clear hSw; simp only [List.getElem_toArray, List.getElem_cons_succ, List.getElem_cons_zero]; go_simp; try with_reducible rfl)
  simp only [Act.put, List.getElem_toArray, List.getElem_cons_succ, List.getElem_cons_zero, List.setIfInBounds_toArray, List.set_cons_zero, List.set_cons_succ]
  refine wpAnyH_take (i := 2) (v := ?_) rfl (by kernel_rfl) (by kernel_rfl) (by kernel_rfl) (fun _ _ _ h => h) (Or.inl ⟨by rfl, ?_⟩) (by assumption) ?_
  rotate_left
  · (intro w hSw; (have c0 := IsKey.tab hSw); (have c1 := IsKey.rounds hSw); clear hSw; simp only [List.getElem_toArray, List.getElem_cons_succ, List.getElem_cons_zero]; go_simp; try with_reducible rfl)
  simp only [Act.put, List.getElem_toArray, List.getElem_cons_succ, List.getElem_cons_zero, List.setIfInBounds_toArray, List.set_cons_zero, List.set_cons_succ]
  refine wpAnyH_take (i := 3) (v := ?_) rfl (by kernel_rfl) (by kernel_rfl) (by kernel_rfl) (fun _ _ _ h => h) (Or.inl ⟨by rfl, ?_⟩) (by assumption) ?_
  rotate_left
  · (intro w hSw; (have c0 := IsKey.tab hSw); (have c1 := IsKey.rounds hSw); clear hSw; simp only [List.getElem_toArray, List.getElem_cons_succ, List.getElem_cons_zero]; go_simp; try with_reducible rfl)
  simp only [Act.put, List.getElem_toArray, List.getElem_cons_succ, List.getElem_cons_zero, List.setIfInBounds_toArray, List.set_cons_zero, List.set_cons_succ]
  refine wpAnyH_take (i := 5) (v := ?_) rfl (by kernel_rfl) (by kernel_rfl) (by kernel_rfl) (fun _ _ _ h => h) (Or.inl ⟨by rfl, ?_⟩) (by assumption) ?_
  rotate_left
  · (intro w hSw; (have c0 := IsKey.tab hSw); (have c1 := IsKey.rounds hSw); clear hSw; simp only [List.getElem_toArray, List.getElem_cons_succ, List.getElem_cons_zero]; go_simp; try with_reducible rfl)
  simp only [Act.put, List.getElem_toArray, List.getElem_cons_succ, List.getElem_cons_zero, List.setIfInBounds_toArray, List.set_cons_zero, List.set_cons_succ]
  refine wpAnyH_take (i := 6) (v := ?_) rfl (by kernel_rfl) (by kernel_rfl) (by kernel_rfl) (fun _ _ _ h => h) (Or.inl ⟨by rfl, ?_⟩) (by assumption) ?_
  rotate_left
  · (intro w hSw; (have c0 := IsKey.tab hSw); (have c1 := IsKey.rounds hSw); clear hSw; simp only [List.getElem_toArray, List.getElem_cons_succ, List.getElem_cons_zero]; go_simp; try with_reducible rfl)
  simp only [Act.put, List.getElem_toArray, List.getElem_cons_succ, List.getElem_cons_zero, List.setIfInBounds_toArray, List.set_cons_zero, List.set_cons_succ]
  refine wpAnyH_take (i := 7) (v := ?_) rfl (by kernel_rfl) (by kernel_rfl) (by kernel_rfl) (fun _ _ _ h => h) (Or.inl ⟨by rfl, ?_⟩) (by assumption) ?_
  rotate_left
  · (intro w hSw; (have c0 := IsKey.tab hSw); (have c1 := IsKey.rounds hSw); clear hSw; simp only [List.getElem_toArray, List.getElem_cons_succ, List.getElem_cons_zero]; go_simp; try with_reducible rfl)
  simp only [Act.put, List.getElem_toArray, List.getElem_cons_succ, List.getElem_cons_zero, List.setIfInBounds_toArray, List.set_cons_zero, List.set_cons_succ]
  refine wpAnyH_take (i := 8) (v := ?_) rfl (by kernel_rfl) (by kernel_rfl) (by kernel_rfl) (fun _ _ _ h => h) (Or.inl ⟨by rfl, ?_⟩) (by assumption) ?_
  rotate_left
  · (intro w hSw; (have c0 := IsKey.tab hSw); (have c1 := IsKey.rounds hSw); clear hSw; simp only [List.getElem_toArray, List.getElem_cons_succ, List.getElem_cons_zero]; go_simp; try with_reducible rfl)
  simp only [Act.put, List.getElem_toArray, List.getElem_cons_succ, List.getElem_cons_zero, List.setIfInBounds_toArray, List.set_cons_zero, List.set_cons_succ]
  refine wpAnyH_take (i := 9) (v := ?_) rfl (by kernel_rfl) (by kernel_rfl) (by kernel_rfl) (fun _ _ _ h => h) (Or.inl ⟨by rfl, ?_⟩) (by assumption) ?_
  rotate_left
  · (intro w hSw; (have c0 := IsKey.tab hSw); (have c1 := IsKey.rounds hSw); clear hSw; simp only [List.getElem_toArray, List.getElem_cons_succ, List.getElem_cons_zero]; go_simp; try with_reducible rfl)
  simp only [Act.put, List.getElem_toArray, List.getElem_cons_succ, List.getElem_cons_zero, List.setIfInBounds_toArray, List.set_cons_zero, List.set_cons_succ]
  refine wpAnyH_take (i := 10) (v := ?_) rfl (by kernel_rfl) (by kernel_rfl) (by kernel_rfl) (fun _ _ _ h => h) (Or.inl ⟨by rfl, ?_⟩) (by assumption) ?_
  rotate_left
  · (intro w hSw; (have c0 := IsKey.tab hSw); (have c1 := IsKey.rounds hSw); clear hSw; simp only [List.getElem_toArray, List.getElem_cons_succ, List.getElem_cons_zero]; go_simp; try with_reducible rfl)
  simp only [Act.put, List.getElem_toArray, List.getElem_cons_succ, List.getElem_cons_zero, List.setIfInBounds_toArray, List.set_cons_zero, List.set_cons_succ]
  refine wpAnyH_take (i := 11) (v := ?_) rfl (by kernel_rfl) (by kernel_rfl) (by kernel_rfl) (fun _ _ _ h => h) (Or.inl ⟨by rfl, ?_⟩) (by assumption) ?_
  rotate_left
  · (intro w hSw; (have c0 := IsKey.tab hSw); (have c1 := IsKey.rounds hSw); clear hSw; simp only [List.getElem_toArray, List.getElem_cons_succ, List.getElem_cons_zero]; go_simp; try with_reducible rfl)
  simp only [Act.put, List.getElem_toArray, List.getElem_cons_succ, List.getElem_cons_zero, List.setIfInBounds_toArray, List.set_cons_zero, List.set_cons_succ]
  refine wpAnyH_take (i := 12) (v := ?_) rfl (by kernel_rfl) (by kernel_rfl) (by kernel_rfl) (fun _ _ _ h => h) (Or.inl ⟨by rfl, ?_⟩) (by assumption) ?_
  rotate_left
  · (intro w hSw; (have c0 := IsKey.tab hSw); (have c1 := IsKey.rounds hSw); clear hSw; simp only [List.getElem_toArray, List.getElem_cons_succ, List.getElem_cons_zero]; go_simp; try with_reducible rfl)
  simp only [Act.put, List.getElem_toArray, List.getElem_cons_succ, List.getElem_cons_zero, List.setIfInBounds_toArray, List.set_cons_zero, List.set_cons_succ]
  refine wpAnyH_ready (rs := [4]) (by kernel_rfl) (by simp) ?_
  refine AllReadyH.cons rfl (fun K hK => ?_) AllReadyH.nil
  rw [if_pos (by rfl)]
  refine wp_load_row 45 _ rfl w.heap.size rfl 45 X1.toArray (0, 0) _ R2 Tryd.underlying45 rfl (by rw [sX1]; rfl) (hK.out _ _ G2 (fun hHeld => ?_))
  clear hK K
  try simp only [Act.put, List.setIfInBounds_toArray, List.set_cons_zero, List.set_cons_succ]
  refine wpAnyH_ready (rs := [13]) (by kernel_rfl) (by simp) ?_
  refine AllReadyH.cons rfl (fun K hK => ?_) AllReadyH.nil
  simp only [List.getElem_toArray, List.getElem_cons_succ, List.getElem_cons_zero]
  go_simp
  refine (cR.out _ H2.out.1.drew).mono ?_
  rintro e v2 ⟨rfl, bc2⟩
  go_wp2_with fail
  refine hK.out _ _ ?_ (fun hHeld => ?_)
  · exact IsKey.later (w := W2.drew) G2 bc2
  clear hK K
  try simp only [Act.put, List.setIfInBounds_toArray, List.set_cons_zero, List.set_cons_succ]
  have B2 := below_two H2.out.1.drew bc2
  have RX2 := (bc2.block _ (Array.getElem?_eq_some_iff.1 H2.out.2.1).1).trans H2.out.2.1
  have RZ2 := (bc2.block _ (Array.getElem?_eq_some_iff.1 H2.out.2.2).1).trans H2.out.2.2
  have GK2 : IsKey (v2.setRow (w.heap.size) X2.toArray) k g r F := IsKey.later hk (below_setRow B2 (by omega) _)
  refine wpAnyH_ready (rs := [14]) (by kernel_rfl) (by simp) ?_
  refine AllReadyH.cons rfl (fun K hK => ?_) AllReadyH.nil
  rw [if_pos (by rfl)]
  refine wp_store_row 45 _ _ rfl (w.heap.size) X2.toArray rfl rfl 45 X1.toArray RX2 (by rw [sX2]; rfl) (by rw [sX2, sX1]) oX2.out (hK.out _ _ GK2 (fun hHeld => ?_))
  clear hK K
  try simp only [Act.put, List.setIfInBounds_toArray, List.set_cons_zero, List.set_cons_succ]
  refine wpAnyH_done (by kernel_rfl) ?_ _
  have H3 : Hid (Below w.heap.size w (v2.setRow w.heap.size X2.toArray) ∧ (v2.setRow w.heap.size X2.toArray).heap[w.heap.size]? = some (.cells X2.toArray 45 (0, 0)) ∧ (v2.setRow w.heap.size X2.toArray).heap[w.heap.size + 1]? = some (.cells Z.toArray 45 (0, 0))) := ⟨below_setRow B2 (by omega) _, setRow_heap _ _ _ _ _ _ RX2, (setRow_other _ _ _ _ (by omega)).trans RZ2⟩
  obtain ⟨W3, hW3⟩ : ∃ W3, W3 = v2.setRow w.heap.size X2.toArray := ⟨_, rfl⟩
  rw [← hW3] at H3 ⊢
  clear hW3 GK2 RX2 RZ2 B2 bc2 G2 R2 hHeld
  go_wp2_with fail
  have G3 : IsKey W3 k g r F := IsKey.later hk H3.out.1
  have R3 := H3.out.2.1
  refine wp_region_held_drew (S := fun w' => IsKey w' k g r F) (by kernel_rfl) ?_ (fun hHeld => ?_)
  · exact G3
  refine wpAnyH_take (i := 0) (v := ?_) rfl (by kernel_rfl) (by kernel_rfl) (by kernel_rfl) (fun _ _ _ h => h) (Or.inl ⟨by rfl, ?_⟩) (by assumption) ?_
  rotate_left
  · (intro w hSw; (have c0 := IsKey.tab hSw); (have c1 := IsKey.rounds hSw); clear hSw; simp only [List.getElem_toArray, List.getElem_cons_zero]; go_simp; try with_reducible rfl)
  simp only [Act.put, List.getElem_toArray, List.getElem_cons_zero, List.setIfInBounds_toArray, List.set_cons_zero, List.set_cons_succ]
  refine wpAnyH_take (i := 1) (v := ?_) rfl (by kernel_rfl) (by kernel_rfl) (by kernel_rfl) (fun _ _ _ h => h) (Or.inl ⟨by rfl, ?_⟩) (by assumption) ?_
  rotate_left
  · (intro w hSw; (have c0 := IsKey.tab hSw); (have c1 := IsKey.rounds hSw); clear hSw; simp only [List.getElem_toArray, List.getElem_cons_succ, List.getElem_cons_zero]; go_simp; try with_reducible rfl)
  simp only [Act.put, List.getElem_toArray, List.getElem_cons_succ, List.getElem_cons_zero, List.setIfInBounds_toArray, List.set_cons_zero, List.set_cons_succ]
  refine wpAnyH_take (i := 2) (v := ?_) rfl (by kernel_rfl) (by kernel_rfl) (by kernel_rfl) (fun _ _ _ h => h) (Or.inl ⟨by rfl, ?_⟩) (by assumption) ?_
  rotate_left
  · (intro w hSw; (have c0 := IsKey.tab hSw); (have c1 := IsKey.rounds hSw); clear hSw; simp only [List.getElem_toArray, List.getElem_cons_succ, List.getElem_cons_zero]; go_simp; try with_reducible rfl)
  simp only [Act.put, List.getElem_toArray, List.getElem_cons_succ, List.getElem_cons_zero, List.setIfInBounds_toArray, List.set_cons_zero, List.set_cons_succ]
  refine wpAnyH_take (i := 3) (v := ?_) rfl (by kernel_rfl) (by kernel_rfl) (by kernel_rfl) (fun _ _ _ h => h) (Or.inl ⟨by rfl, ?_⟩) (by assumption) ?_
  rotate_left
  · (intro w hSw; (have c0 := IsKey.tab hSw); (have c1 := IsKey.rounds hSw); clear hSw; simp only [List.getElem_toArray, List.getElem_cons_succ, List.getElem_cons_zero]; go_simp; try with_reducible rfl)
  simp only [Act.put, List.getElem_toArray, List.getElem_cons_succ, List.getElem_cons_zero, List.setIfInBounds_toArray, List.set_cons_zero, List.set_cons_succ]
  refine wpAnyH_take (i := 5) (v := ?_) rfl (by kernel_rfl) (by kernel_rfl) (by kernel_rfl) (fun _ _ _ h => h) (Or.inl ⟨by rfl, ?_⟩) (by assumption) ?_
  rotate_left
  · (intro w hSw; (have c0 := IsKey.tab hSw); (have c1 := IsKey.rounds hSw); clear hSw; simp only [List.getElem_toArray, List.getElem_cons_succ, List.getElem_cons_zero]; go_simp; try with_reducible rfl)
  simp only [Act.put, List.getElem_toArray, List.getElem_cons_succ, List.getElem_cons_zero, List.setIfInBounds_toArray, List.set_cons_zero, List.set_cons_succ]
  refine wpAnyH_take (i := 6) (v := ?_) rfl (by kernel_rfl) (by kernel_rfl) (by kernel_rfl) (fun _ _ _ h => h) (Or.inl ⟨by rfl, ?_⟩) (by assumption) ?_
  rotate_left
  · (intro w hSw; (have c0 := IsKey.tab hSw); (have c1 := IsKey.rounds hSw); clear hSw; simp only [List.getElem_toArray, List.getElem_cons_succ, List.getElem_cons_zero]; go_simp; try with_reducible rfl)
  simp only [Act.put, List.getElem_toArray, List.getElem_cons_succ, List.getElem_cons_zero, List.setIfInBounds_toArray, List.set_cons_zero, List.set_cons_succ]
  refine wpAnyH_take (i := 7) (v := ?_) rfl (by kernel_rfl) (by kernel_rfl) (by kernel_rfl) (fun _ _ _ h => h) (Or.inl ⟨by rfl, ?_⟩) (by assumption) ?_
  rotate_left
  · (intro w hSw; (have c0 := IsKey.tab hSw); (have c1 := IsKey.rounds hSw); clear hSw; simp only [List.getElem_toArray, List.getElem_cons_succ, List.getElem_cons_zero]; go_simp; try with_reducible rfl)
  simp only [Act.put, List.getElem_toArray, List.getElem_cons_succ, List.getElem_cons_zero, List.setIfInBounds_toArray, List.set_cons_zero, List.set_cons_succ]
  refine wpAnyH_take (i := 8) (v := ?_) rfl (by kernel_rfl) (by kernel_rfl) (by kernel_rfl) (fun _ _ _ h => h) (Or.inl ⟨by rfl, ?_⟩) (by assumption) ?_
  rotate_left
  · (intro w hSw; (have c0 := IsKey.tab hSw); (have c1 := IsKey.rounds hSw); clear hSw; simp only [List.getElem_toArray, List.getElem_cons_succ, List.getElem_cons_zero]; go_simp; try with_reducible rfl)
  simp only [Act.put, List.getElem_toArray, List.getElem_cons_succ, List.getElem_cons_zero, List.setIfInBounds_toArray, List.set_cons_zero, List.set_cons_succ]
  refine wpAnyH_take (i := 9) (v := ?_) rfl (by kernel_rfl) (by kernel_rfl) (by kernel_rfl) (fun _ _ _ h => h) (Or.inl ⟨by rfl, ?_⟩) (by assumption) ?_
  rotate_left
  · (intro w hSw; (have c0 := IsKey.tab hSw); (have c1 := IsKey.rounds hSw); clear hSw; simp only [List.getElem_toArray, List.getElem_cons_succ, List.getElem_cons_zero]; go_simp; try with_reducible rfl)
  simp only [Act.put, List.getElem_toArray, List.getElem_cons_succ, List.getElem_cons_zero, List.setIfInBounds_toArray, List.set_cons_zero, List.set_cons_succ]
  refine wpAnyH_take (i := 10) (v := ?_) rfl (by kernel_rfl) (by kernel_rfl) (by kernel_rfl) (fun _ _ _ h => h) (Or.inl ⟨by rfl, ?_⟩) (by assumption) ?_
  rotate_left
  · (intro w hSw; (have c0 := IsKey.tab hSw); (have c1 := IsKey.rounds hSw); clear hSw; simp only [List.getElem_toArray, List.getElem_cons_succ, List.getElem_cons_zero]; go_simp; try with_reducible rfl)
  simp only [Act.put, List.getElem_toArray, List.getElem_cons_succ, List.getElem_cons_zero, List.setIfInBounds_toArray, List.set_cons_zero, List.set_cons_succ]
  refine wpAnyH_take (i := 11) (v := ?_) rfl (by kernel_rfl) (by kernel_rfl) (by kernel_rfl) (fun _ _ _ h => h) (Or.inl ⟨by rfl, ?_⟩) (by assumption) ?_
  rotate_left
  · (intro w hSw; (have c0 := IsKey.tab hSw); (have c1 := IsKey.rounds hSw); clear hSw; simp only [List.getElem_toArray, List.getElem_cons_succ, List.getElem_cons_zero]; go_simp; try with_reducible rfl)
  simp only [Act.put, List.getElem_toArray, List.getElem_cons_succ, List.getElem_cons_zero, List.setIfInBounds_toArray, List.set_cons_zero, List.set_cons_succ]
  refine wpAnyH_take (i := 12) (v := ?_) rfl (by kernel_rfl) (by kernel_rfl) (by kernel_rfl) (fun _ _ _ h => h) (Or.inl ⟨by rfl, ?_⟩) (by assumption) ?_
  rotate_left
  · (intro w hSw; (have c0 := IsKey.tab hSw); (have c1 := IsKey.rounds hSw); clear hSw; simp only [List.getElem_toArray, List.getElem_cons_succ, List.getElem_cons_zero]; go_simp; try with_reducible rfl)
  simp only [Act.put, List.getElem_toArray, List.getElem_cons_succ, List.getElem_cons_zero, List.setIfInBounds_toArray, List.set_cons_zero, List.set_cons_succ]
  refine wpAnyH_take (i := 13) rfl (by kernel_rfl) (by kernel_rfl) (by kernel_rfl) (fun _ _ _ h => h) (yieldsIf_load_mid (by rfl) _ _ rfl _ _ rfl Kr _ (fun w hSw => hKr.out w hSw) Tryd.underlying45 rfl iKr) (by assumption) ?_
  simp only [Act.put, List.getElem_toArray, List.getElem_cons_succ, List.getElem_cons_zero, List.setIfInBounds_toArray, List.set_cons_zero, List.set_cons_succ]
  refine wpAnyH_ready (rs := [4]) (by kernel_rfl) (by simp) ?_
  refine AllReadyH.cons rfl (fun K hK => ?_) AllReadyH.nil
  rw [if_pos (by rfl)]
  refine wp_load_row 45 _ rfl w.heap.size rfl 45 X2.toArray (0, 0) _ R3 Tryd.underlying45 rfl (by rw [sX2]; rfl) (hK.out _ _ G3 (fun hHeld => ?_))
  clear hK K
  try simp only [Act.put, List.setIfInBounds_toArray, List.set_cons_zero, List.set_cons_succ]
  refine wpAnyH_ready (rs := [14]) (by kernel_rfl) (by simp) ?_
  refine AllReadyH.cons rfl (fun K hK => ?_) AllReadyH.nil
  simp only [List.getElem_toArray, List.getElem_cons_succ, List.getElem_cons_zero]
  go_simp
  refine (cL.out _ H3.out.1.drew).mono ?_
  rintro e v3 ⟨rfl, bc3⟩
  go_wp2_with fail
  refine hK.out _ _ ?_ (fun hHeld => ?_)
  · exact IsKey.later (w := W3.drew) G3 bc3
  clear hK K
  try simp only [Act.put, List.setIfInBounds_toArray, List.set_cons_zero, List.set_cons_succ]
  have B3 := below_two H3.out.1.drew bc3
  have RX3 := (bc3.block _ (Array.getElem?_eq_some_iff.1 H3.out.2.1).1).trans H3.out.2.1
  have RZ3 := (bc3.block _ (Array.getElem?_eq_some_iff.1 H3.out.2.2).1).trans H3.out.2.2
  have GK3 : IsKey (v3.setRow (w.heap.size + 1) X3.toArray) k g r F := IsKey.later hk (below_setRow B3 (by omega) _)
  refine wpAnyH_ready (rs := [15]) (by kernel_rfl) (by simp) ?_
  refine AllReadyH.cons rfl (fun K hK => ?_) AllReadyH.nil
  rw [if_pos (by rfl)]
  refine wp_store_row 45 _ _ rfl (w.heap.size + 1) X3.toArray rfl rfl 45 Z.toArray RZ3 (by rw [sX3]; rfl) (by rw [sX3, sZ]) oX3.out (hK.out _ _ GK3 (fun hHeld => ?_))
  clear hK K
  try simp only [Act.put, List.setIfInBounds_toArray, List.set_cons_zero, List.set_cons_succ]
  refine wpAnyH_done (by kernel_rfl) ?_ _
  go_wp2_with fail
  refine bodyPost_ret (v := .agg X3.toArray) (results_cell_row rfl _ _ (w.heap.size + 1) 45 X3.toArray (0, 0) _ rfl (setRow_heap _ _ _ _ _ _ RZ3) Tryd.underlying45 rfl (by rw [sX3]; rfl)) rfl ⟨rfl, ?_⟩
  exact below_setRow B3 (by omega) _
/-- A block enciphered, by a key's bytes. -/
def encB (F : Nat → Nat) (r : Nat) (f : Nat → Nat) : Nat → Nat := lst (rnds (fun i => f i ^^^ F i) (fun i j => F (16 * (i + 1) + j)) (r - 1)) fun j => F (16 * r + j)
theorem encrypt_any (k g r : Nat) (F f : Nat → Nat) (hF : Byt F) (hf : Byt f) (w : World) (hk : IsKey w k g r F) (ht : IsTab w g) (hr : 0 < r) (hr2 : r < 15) :
    Calls Tryd.prog 18 #[.pointer (some ⟨k, 0, none⟩), blkV f] w fun e w' => e = .returned (blkV (encB F r f)) ∧ Below w.heap.size w w' := by
  have hx : Byt fun i => f i ^^^ F i := fun i => xor_lt _ _ (hf i) (hF i)
  have hks : ∀ i, Byt fun j => F (16 * (i + 1) + j) := fun i j => hF _
  refine encrypt_core k g r (r - 1) F (bc 16 f) (bc 16 fun i => f i ^^^ F i) (bc 16 (rnds (fun i => f i ^^^ F i) (fun i j => F (16 * (i + 1) + j)) (r - 1))) (bc 16 (encB F r f)) (bc 16 fun j => F (16 * 0 + j)) (bc 16 fun j => F (16 * r + j)) w hk hr hr2 rfl
    (by rw [List.size_toArray, bc_len]) (by rw [List.size_toArray, bc_len]) (by rw [List.size_toArray, bc_len]) (by rw [List.size_toArray, bc_len]) (bc_one _ _) (bc_one _ _) (bc_one _ _) (by rw [bc_len]; rfl) (by rw [bc_len]; rfl)
    (fun w' h => by have := h.at 0 (by omega); rwa [Nat.zero_mul] at this) (fun w' h => h.at r hr2) (fun w' => ?_) (fun w' hb => ?_) (fun w' hb => ?_)
  · have := sum_any f (fun j => F (16 * 0 + j)) hf (fun j => hF _) w'
    rw [bc_congr (f := fun i => f i ^^^ F (16 * 0 + i)) (g := fun i => f i ^^^ F i) fun i _ => by rw [Nat.mul_zero, Nat.zero_add]] at this
    exact this
  · refine rounds_any g (r - 1) _ _ _ hx (by omega) w' (ht.later hb) ⟨hks, _, 14, rfl, .inr ⟨k, 18, rfl, fun i hi => ?_⟩⟩
    have := (hk.later hb).at (i + 1) (by omega)
    rw [show 2 + (i + 1) * 16 = 18 + i * 16 by omega] at this
    exact this
  · exact last_any g _ _ (rnds_byt hx hks _) (fun j => hF _) w' (ht.later hb)
end Go.Proofs.YtdfbcdgneboilaaDoor
namespace Go.Proofs.YtdfbcdgneboilaaDoor
open Go.ChangeShapes Go.WideShapes Go.ChangeAt Go.RowKit
set_option maxRecDepth 20000

set_option linter.unusedSimpArgs false in
set_option maxRecDepth 100000 in
set_option maxHeartbeats 4000000 in
theorem decrypt_core (k g r : Nat) (F : Nat → Nat) (U K : Nat → List Value) (X X3 K0 Kr : List Value) (w : World) (hk : IsKey w k g r F) (hr : 0 < r) (hr2 : r < 15)
    (sX : X.toArray.size = 16) (sU : Hid (∀ j, (U j).toArray.size = 16)) (sX3 : X3.toArray.size = 16)
    (oU : Hid (∀ j, (U j).toArray.all (·.oneCell') = true)) (oX3 : Hid (X3.toArray.all (·.oneCell') = true))
    (iK0 : (Tryd.prog.info? 45).map (·.size) = some K0.length) (iKr : (Tryd.prog.info? 45).map (·.size) = some Kr.length) (iK : Hid (∀ i, (Tryd.prog.info? 45).map (·.size) = some (K i).length))
    (hK0 : Hid (∀ w', IsKey w' k g r F → w'.rangeAt k 2 K0)) (hKr : Hid (∀ w', IsKey w' k g r F → w'.rangeAt k (2 + r * 16) Kr)) (hK : Hid (∀ i, i < 15 → ∀ w', IsKey w' k g r F → w'.rangeAt k (2 + i * 16) (K i)))
    (cL : Hid (∀ w', Below w.heap.size w w' → Calls Tryd.prog 38 #[.pointer (some ⟨g, 0, none⟩), .agg X.toArray, .agg Kr.toArray] w' fun e w'' => e = .returned (.agg (U 0).toArray) ∧ Below w'.heap.size w' w''))
    (cU : Hid (∀ i j, i + 1 + j = r - 1 → ∀ w', Below w.heap.size w w' → Calls Tryd.prog 39 #[.pointer (some ⟨g, 0, none⟩), .agg (U j).toArray, .agg (K (i + 1)).toArray] w' fun e w'' => e = .returned (.agg (U (j + 1)).toArray) ∧ Below w'.heap.size w' w''))
    (cS : Hid (∀ w', Calls Tryd.prog 31 #[.agg (U (r - 1)).toArray, .agg K0.toArray] w' fun e w'' => e = .returned (.agg X3.toArray) ∧ Below w'.heap.size w' w'')) :
    Calls Tryd.prog 23 #[.pointer (some ⟨k, 0, none⟩), .agg X.toArray] w fun e w' => e = .returned (.agg X3.toArray) ∧ Below w.heap.size w w' := by
  obtain ⟨Z, hZ⟩ : ∃ Z, Z = bc 16 (fun _ => 0) := ⟨_, rfl⟩
  have hz := zero16
  rw [← hZ] at hz
  have sZ : Z.toArray.size = 16 := by rw [hZ, List.size_toArray, bc_len]
  have H1 : Hid (Below w.heap.size w ((w.alloc (.cells X.toArray 45)).alloc (.cells Z.toArray 45)) ∧ ((w.alloc (.cells X.toArray 45)).alloc (.cells Z.toArray 45)).heap[w.heap.size]? = some (.cells X.toArray 45 (0, 0)) ∧ ((w.alloc (.cells X.toArray 45)).alloc (.cells Z.toArray 45)).heap[w.heap.size + 1]? = some (.cells Z.toArray 45 (0, 0))) :=
    ⟨below_alloc (below_alloc (Below.refl _ _) _) _, heap_alloc2_old _ _ _, heap_alloc2_new _ _ _⟩
  have c1 := (IsKey.later hk H1.out.1).rounds
  have i1 : ¬ (r : Int) = 0 := by omega
  have i6 : (r : Int) < 15 := by omega
  have i7 : r ≤ 15 := by omega
  obtain ⟨X1, hX1⟩ : ∃ X1, X1 = U 0 := ⟨_, rfl⟩
  rw [← hX1] at cL
  have sX1 : X1.toArray.size = 16 := by rw [hX1]; exact sU.out 0
  have oX1 : Hid (X1.toArray.all (·.oneCell') = true) := by rw [hX1]; exact oU.out 0
  have HX1 := hide hX1
  clear hZ hX1
  go_enter Tryd.func23, Tryd.ntmps23
  go_wp2_with fail
  obtain ⟨W1, hW1⟩ : ∃ W1, W1 = (w.alloc (.cells X.toArray 45)).alloc (.cells Z.toArray 45) := ⟨_, rfl⟩
  rw [← hW1] at H1 ⊢
  clear hW1 c1
  have G1 : IsKey W1 k g r F := IsKey.later hk H1.out.1
  have R1 := H1.out.2.1
  refine wp_region_held_drew (S := fun w' => IsKey w' k g r F) (by kernel_rfl) ?_ (fun hHeld => ?_)
  · exact G1
  refine wpAnyH_take (i := 0) (v := ?_) rfl (by kernel_rfl) (by kernel_rfl) (by kernel_rfl) (fun _ _ _ h => h) (Or.inl ⟨by rfl, ?_⟩) (by assumption) ?_
  rotate_left
  · (intro w hSw; (have c0 := IsKey.tab hSw); (have c1 := IsKey.rounds hSw); clear hSw; simp only [List.getElem_toArray, List.getElem_cons_zero]; go_simp; try with_reducible rfl)
  simp only [Act.put, List.getElem_toArray, List.getElem_cons_zero, List.setIfInBounds_toArray, List.set_cons_zero, List.set_cons_succ]
  refine wpAnyH_take (i := 1) (v := ?_) rfl (by kernel_rfl) (by kernel_rfl) (by kernel_rfl) (fun _ _ _ h => h) (Or.inl ⟨by rfl, ?_⟩) (by assumption) ?_
  rotate_left
  · (intro w hSw; (have c0 := IsKey.tab hSw); (have c1 := IsKey.rounds hSw); clear hSw; simp only [List.getElem_toArray, List.getElem_cons_succ, List.getElem_cons_zero]; go_simp; try with_reducible rfl)
  simp only [Act.put, List.getElem_toArray, List.getElem_cons_succ, List.getElem_cons_zero, List.setIfInBounds_toArray, List.set_cons_zero, List.set_cons_succ]
  refine wpAnyH_take (i := 2) (v := ?_) rfl (by kernel_rfl) (by kernel_rfl) (by kernel_rfl) (fun _ _ _ h => h) (Or.inl ⟨by rfl, ?_⟩) (by assumption) ?_
  rotate_left
  · (intro w hSw; (have c0 := IsKey.tab hSw); (have c1 := IsKey.rounds hSw); clear hSw; simp only [List.getElem_toArray, List.getElem_cons_succ, List.getElem_cons_zero]; go_simp; try with_reducible rfl)
  simp only [Act.put, List.getElem_toArray, List.getElem_cons_succ, List.getElem_cons_zero, List.setIfInBounds_toArray, List.set_cons_zero, List.set_cons_succ]
  refine wpAnyH_take (i := 3) (v := ?_) rfl (by kernel_rfl) (by kernel_rfl) (by kernel_rfl) (fun _ _ _ h => h) (Or.inl ⟨by rfl, ?_⟩) (by assumption) ?_
  rotate_left
  · (intro w hSw; (have c0 := IsKey.tab hSw); (have c1 := IsKey.rounds hSw); clear hSw; simp only [List.getElem_toArray, List.getElem_cons_succ, List.getElem_cons_zero]; go_simp; try with_reducible rfl)
  simp only [Act.put, List.getElem_toArray, List.getElem_cons_succ, List.getElem_cons_zero, List.setIfInBounds_toArray, List.set_cons_zero, List.set_cons_succ]
  refine wpAnyH_take (i := 5) (v := ?_) rfl (by kernel_rfl) (by kernel_rfl) (by kernel_rfl) (fun _ _ _ h => h) (Or.inl ⟨by rfl, ?_⟩) (by assumption) ?_
  rotate_left
  · (intro w hSw; (have c0 := IsKey.tab hSw); (have c1 := IsKey.rounds hSw); clear hSw; simp only [List.getElem_toArray, List.getElem_cons_succ, List.getElem_cons_zero]; go_simp; try with_reducible rfl)
  simp only [Act.put, List.getElem_toArray, List.getElem_cons_succ, List.getElem_cons_zero, List.setIfInBounds_toArray, List.set_cons_zero, List.set_cons_succ]
  refine wpAnyH_take (i := 6) (v := ?_) rfl (by kernel_rfl) (by kernel_rfl) (by kernel_rfl) (fun _ _ _ h => h) (Or.inl ⟨by rfl, ?_⟩) (by assumption) ?_
  rotate_left
  · (intro w hSw; (have c0 := IsKey.tab hSw); (have c1 := IsKey.rounds hSw); clear hSw; simp only [List.getElem_toArray, List.getElem_cons_succ, List.getElem_cons_zero]; go_simp; try with_reducible rfl)
  simp only [Act.put, List.getElem_toArray, List.getElem_cons_succ, List.getElem_cons_zero, List.setIfInBounds_toArray, List.set_cons_zero, List.set_cons_succ]
  refine wpAnyH_take (i := 7) (v := ?_) rfl (by kernel_rfl) (by kernel_rfl) (by kernel_rfl) (fun _ _ _ h => h) (Or.inl ⟨by rfl, ?_⟩) (by assumption) ?_
  rotate_left
  · (intro w hSw; (have c0 := IsKey.tab hSw); (have c1 := IsKey.rounds hSw); clear hSw; simp only [List.getElem_toArray, List.getElem_cons_succ, List.getElem_cons_zero]; go_simp; try with_reducible rfl)
  simp only [Act.put, List.getElem_toArray, List.getElem_cons_succ, List.getElem_cons_zero, List.setIfInBounds_toArray, List.set_cons_zero, List.set_cons_succ]
  refine wpAnyH_take (i := 8) (v := ?_) rfl (by kernel_rfl) (by kernel_rfl) (by kernel_rfl) (fun _ _ _ h => h) (Or.inl ⟨by rfl, ?_⟩) (by assumption) ?_
  rotate_left
  · (intro w hSw; (have c0 := IsKey.tab hSw); (have c1 := IsKey.rounds hSw); clear hSw; simp only [List.getElem_toArray, List.getElem_cons_succ, List.getElem_cons_zero]; go_simp; try with_reducible rfl)
  simp only [Act.put, List.getElem_toArray, List.getElem_cons_succ, List.getElem_cons_zero, List.setIfInBounds_toArray, List.set_cons_zero, List.set_cons_succ]
  refine wpAnyH_take (i := 9) (v := ?_) rfl (by kernel_rfl) (by kernel_rfl) (by kernel_rfl) (fun _ _ _ h => h) (Or.inl ⟨by rfl, ?_⟩) (by assumption) ?_
  rotate_left
  · (intro w hSw; (have c0 := IsKey.tab hSw); (have c1 := IsKey.rounds hSw); clear hSw; simp only [List.getElem_toArray, List.getElem_cons_succ, List.getElem_cons_zero]; go_simp; try with_reducible rfl)
  simp only [Act.put, List.getElem_toArray, List.getElem_cons_succ, List.getElem_cons_zero, List.setIfInBounds_toArray, List.set_cons_zero, List.set_cons_succ]
  refine wpAnyH_take (i := 10) (v := ?_) rfl (by kernel_rfl) (by kernel_rfl) (by kernel_rfl) (fun _ _ _ h => h) (Or.inl ⟨by rfl, ?_⟩) (by assumption) ?_
  rotate_left
  · (intro w hSw; (have c0 := IsKey.tab hSw); (have c1 := IsKey.rounds hSw); clear hSw; simp only [List.getElem_toArray, List.getElem_cons_succ, List.getElem_cons_zero]; go_simp; try with_reducible rfl)
  simp only [Act.put, List.getElem_toArray, List.getElem_cons_succ, List.getElem_cons_zero, List.setIfInBounds_toArray, List.set_cons_zero, List.set_cons_succ]
  refine wpAnyH_take (i := 11) (v := ?_) rfl (by kernel_rfl) (by kernel_rfl) (by kernel_rfl) (fun _ _ _ h => h) (Or.inl ⟨by rfl, ?_⟩) (by assumption) ?_
  rotate_left
  · (intro w hSw; (have c0 := IsKey.tab hSw); (have c1 := IsKey.rounds hSw); clear hSw; simp only [List.getElem_toArray, List.getElem_cons_succ, List.getElem_cons_zero]; go_simp; try with_reducible rfl)
  simp only [Act.put, List.getElem_toArray, List.getElem_cons_succ, List.getElem_cons_zero, List.setIfInBounds_toArray, List.set_cons_zero, List.set_cons_succ]
  refine wpAnyH_take (i := 12) (v := ?_) rfl (by kernel_rfl) (by kernel_rfl) (by kernel_rfl) (fun _ _ _ h => h) (Or.inl ⟨by rfl, ?_⟩) (by assumption) ?_
  rotate_left
  · (intro w hSw; (have c0 := IsKey.tab hSw); (have c1 := IsKey.rounds hSw); clear hSw; simp only [List.getElem_toArray, List.getElem_cons_succ, List.getElem_cons_zero]; go_simp; try with_reducible rfl)
  simp only [Act.put, List.getElem_toArray, List.getElem_cons_succ, List.getElem_cons_zero, List.setIfInBounds_toArray, List.set_cons_zero, List.set_cons_succ]
  refine wpAnyH_take (i := 13) rfl (by kernel_rfl) (by kernel_rfl) (by kernel_rfl) (fun _ _ _ h => h) (yieldsIf_load_mid (by rfl) _ _ rfl _ _ rfl Kr _ (fun w hSw => hKr.out w hSw) Tryd.underlying45 rfl iKr) (by assumption) ?_
  simp only [Act.put, List.getElem_toArray, List.getElem_cons_succ, List.getElem_cons_zero, List.setIfInBounds_toArray, List.set_cons_zero, List.set_cons_succ]
  refine wpAnyH_ready (rs := [4]) (by kernel_rfl) (by simp) ?_
  refine AllReadyH.cons rfl (fun K hK => ?_) AllReadyH.nil
  rw [if_pos (by rfl)]
  refine wp_load_row 45 _ rfl w.heap.size rfl 45 X.toArray (0, 0) _ R1 Tryd.underlying45 rfl (by rw [sX]; rfl) (hK.out _ _ G1 (fun hHeld => ?_))
  clear hK K
  try simp only [Act.put, List.setIfInBounds_toArray, List.set_cons_zero, List.set_cons_succ]
  refine wpAnyH_ready (rs := [14]) (by kernel_rfl) (by simp) ?_
  refine AllReadyH.cons rfl (fun K hK => ?_) AllReadyH.nil
  simp only [List.getElem_toArray, List.getElem_cons_succ, List.getElem_cons_zero]
  go_simp
  refine (cL.out _ H1.out.1.drew).mono ?_
  rintro e v1 ⟨rfl, bc1⟩
  go_wp2_with fail
  refine hK.out _ _ ?_ (fun hHeld => ?_)
  · exact IsKey.later (w := W1.drew) G1 bc1
  clear hK K
  try simp only [Act.put, List.setIfInBounds_toArray, List.set_cons_zero, List.set_cons_succ]
  have B1 := below_two H1.out.1.drew bc1
  have RX1 := (bc1.block _ (Array.getElem?_eq_some_iff.1 H1.out.2.1).1).trans H1.out.2.1
  have RZ1 := (bc1.block _ (Array.getElem?_eq_some_iff.1 H1.out.2.2).1).trans H1.out.2.2
  have GK1 : IsKey (v1.setRow (w.heap.size) X1.toArray) k g r F := IsKey.later hk (below_setRow B1 (by omega) _)
  refine wpAnyH_ready (rs := [15]) (by kernel_rfl) (by simp) ?_
  refine AllReadyH.cons rfl (fun K hK => ?_) AllReadyH.nil
  rw [if_pos (by rfl)]
  refine wp_store_row 45 _ _ rfl (w.heap.size) X1.toArray rfl rfl 45 X.toArray RX1 (by rw [sX1]; rfl) (by rw [sX1, sX]) oX1.out (hK.out _ _ GK1 (fun hHeld => ?_))
  clear hK K
  try simp only [Act.put, List.setIfInBounds_toArray, List.set_cons_zero, List.set_cons_succ]
  refine wpAnyH_done (by kernel_rfl) ?_ _
  have H2 : Hid (Below w.heap.size w (v1.setRow w.heap.size X1.toArray) ∧ (v1.setRow w.heap.size X1.toArray).heap[w.heap.size]? = some (.cells X1.toArray 45 (0, 0)) ∧ (v1.setRow w.heap.size X1.toArray).heap[w.heap.size + 1]? = some (.cells Z.toArray 45 (0, 0))) := ⟨below_setRow B1 (by omega) _, setRow_heap _ _ _ _ _ _ RX1, (setRow_other _ _ _ _ (by omega)).trans RZ1⟩
  obtain ⟨W2, hW2⟩ : ∃ W2, W2 = v1.setRow w.heap.size X1.toArray := ⟨_, rfl⟩
  rw [← hW2] at H2 ⊢
  clear hW2 GK1 RX1 RZ1 B1 bc1 G1 R1 hHeld
  have c1 := (IsKey.later hk H2.out.1).rounds
  obtain ⟨q, hq⟩ : ∃ q, r = q + 1 := ⟨r - 1, by omega⟩
  have j1 : (r : Int) - 1 = (q : Int) := by omega
  have j2 : IntKind.i64.wrap ((r : Int) - 1) = (q : Int) := by rw [IntKind.wrap_i64]; omega
  have HQ := hide hq
  clear hq
  go_wp2_with fail
  go_loopw [5] (fun v wr => ∃ i j : Nat, i + j = q ∧ v = .int .i64 i ∧ Hid (Below w.heap.size w wr ∧ wr.heap[w.heap.size]? = some (.cells (U j).toArray 45 (0, 0)) ∧ wr.heap[w.heap.size + 1]? = some (.cells Z.toArray 45 (0, 0)))) (fun v _ => (intOf v).toNat)
  case atStart =>
    refine ⟨q, 0, by omega, rfl, ?_⟩
    rw [← HX1.out]; exact H2
  case round =>
    obtain ⟨i, j, hij, rfl, H5⟩ := hrel
    obtain ⟨A, hA⟩ : ∃ A, A = U j := ⟨_, rfl⟩
    have sA : A.toArray.size = 16 := by rw [hA]; exact sU.out j
    rw [← hA] at H5
    clear c1 j1 j2 H2
    by_cases hlt : 0 < i
    · obtain ⟨n, rfl⟩ : ∃ n, i = n + 1 := ⟨i - 1, by omega⟩
      obtain ⟨B, hB⟩ : ∃ B, B = U (j + 1) := ⟨_, rfl⟩
      obtain ⟨Ki, hKk⟩ : ∃ Ki, Ki = K (n + 1) := ⟨_, rfl⟩
      have sB : B.toArray.size = 16 := by rw [hB]; exact sU.out _
      have oB : Hid (B.toArray.all (·.oneCell') = true) := by rw [hB]; exact oU.out _
      have iKi : (Tryd.prog.info? 45).map (·.size) = some Ki.length := by rw [hKk]; exact iK.out _
      have KU := hide (cU.out n j (by have := HQ.out; omega))
      rw [← hA, ← hB, ← hKk] at KU
      obtain ⟨m, hm⟩ : ∃ m, m = n + 1 := ⟨_, rfl⟩
      have hKi : Hid (∀ w', IsKey w' k g r F → w'.rangeAt k (2 + m * 16) Ki) := fun w' h => by rw [hKk, hm]; exact hK.out (n + 1) (by have := HQ.out; omega) w' h
      rw [← hm]
      have n1 : (0 : Int) < (m : Int) := by omega
      have n2 : (m : Int) < 15 := by have := HQ.out; omega
      have n3 : decide ((0 : Int) < (m : Int)) = true := decide_eq_true n1
      have n4 : (m : Int) - 1 = (n : Int) := by omega
      have n5 : IntKind.i64.wrap ((m : Int) - 1) = (n : Int) := by rw [IntKind.wrap_i64]; omega
      have HB := hide hB
      have HM := hide hm
      have HIJ := hide hij
      clear hA hB hKk hm hij cU hK cL
      go_wp2_with fail
      have G5 : IsKey wr k g r F := IsKey.later hk H5.out.1
      have R5 := H5.out.2.1
      refine wp_region_held_drew (S := fun w' => IsKey w' k g r F) (by kernel_rfl) ?_ (fun hHeld => ?_)
      · exact G5
      refine wpAnyH_take (i := 0) (v := ?_) rfl (by kernel_rfl) (by kernel_rfl) (by kernel_rfl) (fun _ _ _ h => h) (Or.inl ⟨by rfl, ?_⟩) (by assumption) ?_
      rotate_left
      · (intro w hSw; (have c0 := IsKey.tab hSw); (have c1 := IsKey.rounds hSw); clear hSw; simp only [List.getElem_toArray, List.getElem_cons_zero]; go_simp; try with_reducible rfl)
      simp only [Act.put, List.getElem_toArray, List.getElem_cons_zero, List.setIfInBounds_toArray, List.set_cons_zero, List.set_cons_succ]
      refine wpAnyH_take (i := 1) (v := ?_) rfl (by kernel_rfl) (by kernel_rfl) (by kernel_rfl) (fun _ _ _ h => h) (Or.inl ⟨by rfl, ?_⟩) (by assumption) ?_
      rotate_left
      · (intro w hSw; (have c0 := IsKey.tab hSw); (have c1 := IsKey.rounds hSw); clear hSw; simp only [List.getElem_toArray, List.getElem_cons_succ, List.getElem_cons_zero]; go_simp; try with_reducible rfl)
      simp only [Act.put, List.getElem_toArray, List.getElem_cons_succ, List.getElem_cons_zero, List.setIfInBounds_toArray, List.set_cons_zero, List.set_cons_succ]
      refine wpAnyH_take (i := 2) (v := ?_) rfl (by kernel_rfl) (by kernel_rfl) (by kernel_rfl) (fun _ _ _ h => h) (Or.inl ⟨by rfl, ?_⟩) (by assumption) ?_
      rotate_left
      · (intro w hSw; (have c0 := IsKey.tab hSw); (have c1 := IsKey.rounds hSw); clear hSw; simp only [List.getElem_toArray, List.getElem_cons_succ, List.getElem_cons_zero]; go_simp; try with_reducible rfl)
      simp only [Act.put, List.getElem_toArray, List.getElem_cons_succ, List.getElem_cons_zero, List.setIfInBounds_toArray, List.set_cons_zero, List.set_cons_succ]
      refine wpAnyH_take (i := 3) (v := ?_) rfl (by kernel_rfl) (by kernel_rfl) (by kernel_rfl) (fun _ _ _ h => h) (Or.inl ⟨by rfl, ?_⟩) (by assumption) ?_
      rotate_left
      · (intro w hSw; (have c0 := IsKey.tab hSw); (have c1 := IsKey.rounds hSw); clear hSw; simp only [List.getElem_toArray, List.getElem_cons_succ, List.getElem_cons_zero]; go_simp; try with_reducible rfl)
      simp only [Act.put, List.getElem_toArray, List.getElem_cons_succ, List.getElem_cons_zero, List.setIfInBounds_toArray, List.set_cons_zero, List.set_cons_succ]
      refine wpAnyH_take (i := 5) (v := ?_) rfl (by kernel_rfl) (by kernel_rfl) (by kernel_rfl) (fun _ _ _ h => h) (Or.inl ⟨by rfl, ?_⟩) (by assumption) ?_
      rotate_left
      · (intro w hSw; (have c0 := IsKey.tab hSw); (have c1 := IsKey.rounds hSw); clear hSw; simp only [List.getElem_toArray, List.getElem_cons_succ, List.getElem_cons_zero]; go_simp; try with_reducible rfl)
      simp only [Act.put, List.getElem_toArray, List.getElem_cons_succ, List.getElem_cons_zero, List.setIfInBounds_toArray, List.set_cons_zero, List.set_cons_succ]
      refine wpAnyH_take (i := 6) (v := ?_) rfl (by kernel_rfl) (by kernel_rfl) (by kernel_rfl) (fun _ _ _ h => h) (Or.inl ⟨by rfl, ?_⟩) (by assumption) ?_
      rotate_left
      · (intro w hSw; (have c0 := IsKey.tab hSw); (have c1 := IsKey.rounds hSw); clear hSw; simp only [List.getElem_toArray, List.getElem_cons_succ, List.getElem_cons_zero]; go_simp; try with_reducible rfl)
      simp only [Act.put, List.getElem_toArray, List.getElem_cons_succ, List.getElem_cons_zero, List.setIfInBounds_toArray, List.set_cons_zero, List.set_cons_succ]
      refine wpAnyH_take (i := 7) (v := ?_) rfl (by kernel_rfl) (by kernel_rfl) (by kernel_rfl) (fun _ _ _ h => h) (Or.inl ⟨by rfl, ?_⟩) (by assumption) ?_
      rotate_left
      · (intro w hSw; (have c0 := IsKey.tab hSw); (have c1 := IsKey.rounds hSw); clear hSw; simp only [List.getElem_toArray, List.getElem_cons_succ, List.getElem_cons_zero]; go_simp; try with_reducible rfl)
      simp only [Act.put, List.getElem_toArray, List.getElem_cons_succ, List.getElem_cons_zero, List.setIfInBounds_toArray, List.set_cons_zero, List.set_cons_succ]
      refine wpAnyH_take (i := 8) (v := ?_) rfl (by kernel_rfl) (by kernel_rfl) (by kernel_rfl) (fun _ _ _ h => h) (Or.inl ⟨by rfl, ?_⟩) (by assumption) ?_
      rotate_left
      · (intro w hSw; (have c0 := IsKey.tab hSw); (have c1 := IsKey.rounds hSw); clear hSw; simp only [List.getElem_toArray, List.getElem_cons_succ, List.getElem_cons_zero]; go_simp; try with_reducible rfl)
      simp only [Act.put, List.getElem_toArray, List.getElem_cons_succ, List.getElem_cons_zero, List.setIfInBounds_toArray, List.set_cons_zero, List.set_cons_succ]
      refine wpAnyH_take (i := 9) (v := ?_) rfl (by kernel_rfl) (by kernel_rfl) (by kernel_rfl) (fun _ _ _ h => h) (Or.inl ⟨by rfl, ?_⟩) (by assumption) ?_
      rotate_left
      · (intro w hSw; (have c0 := IsKey.tab hSw); (have c1 := IsKey.rounds hSw); clear hSw; simp only [List.getElem_toArray, List.getElem_cons_succ, List.getElem_cons_zero]; go_simp; try with_reducible rfl)
      simp only [Act.put, List.getElem_toArray, List.getElem_cons_succ, List.getElem_cons_zero, List.setIfInBounds_toArray, List.set_cons_zero, List.set_cons_succ]
      refine wpAnyH_take (i := 10) rfl (by kernel_rfl) (by kernel_rfl) (by kernel_rfl) (fun _ _ _ h => h) (yieldsIf_load_mid (by rfl) _ _ rfl _ _ rfl Ki _ (fun w hSw => hKi.out w hSw) Tryd.underlying45 rfl iKi) (by assumption) ?_
      simp only [Act.put, List.getElem_toArray, List.getElem_cons_succ, List.getElem_cons_zero, List.setIfInBounds_toArray, List.set_cons_zero, List.set_cons_succ]
      refine wpAnyH_ready (rs := [4]) (by kernel_rfl) (by simp) ?_
      refine AllReadyH.cons rfl (fun K hK => ?_) AllReadyH.nil
      rw [if_pos (by rfl)]
      refine wp_load_row 45 _ rfl w.heap.size rfl 45 A.toArray (0, 0) _ R5 Tryd.underlying45 rfl (by rw [sA]; rfl) (hK.out _ _ G5 (fun hHeld => ?_))
      clear hK K
      try simp only [Act.put, List.setIfInBounds_toArray, List.set_cons_zero, List.set_cons_succ]
      refine wpAnyH_ready (rs := [11]) (by kernel_rfl) (by simp) ?_
      refine AllReadyH.cons rfl (fun K hK => ?_) AllReadyH.nil
      simp only [List.getElem_toArray, List.getElem_cons_succ, List.getElem_cons_zero]
      go_simp
      refine (KU.out _ H5.out.1.drew).mono ?_
      rintro e v5 ⟨rfl, bc5⟩
      go_wp2_with fail
      refine hK.out _ _ ?_ (fun hHeld => ?_)
      · exact IsKey.later (w := wr.drew) G5 bc5
      clear hK K
      try simp only [Act.put, List.setIfInBounds_toArray, List.set_cons_zero, List.set_cons_succ]
      have B5 := below_two H5.out.1.drew bc5
      have RX5 := (bc5.block _ (Array.getElem?_eq_some_iff.1 H5.out.2.1).1).trans H5.out.2.1
      have RZ5 := (bc5.block _ (Array.getElem?_eq_some_iff.1 H5.out.2.2).1).trans H5.out.2.2
      have GK5 : IsKey (v5.setRow (w.heap.size) B.toArray) k g r F := IsKey.later hk (below_setRow B5 (by omega) _)
      refine wpAnyH_ready (rs := [12]) (by kernel_rfl) (by simp) ?_
      refine AllReadyH.cons rfl (fun K hK => ?_) AllReadyH.nil
      rw [if_pos (by rfl)]
      refine wp_store_row 45 _ _ rfl (w.heap.size) B.toArray rfl rfl 45 A.toArray RX5 (by rw [sB]; rfl) (by rw [sB, sA]) oB.out (hK.out _ _ GK5 (fun hHeld => ?_))
      clear hK K
      try simp only [Act.put, List.setIfInBounds_toArray, List.set_cons_zero, List.set_cons_succ]
      refine wpAnyH_done (by kernel_rfl) ?_ _
      have H6 : Hid (Below w.heap.size w (v5.setRow w.heap.size B.toArray) ∧ (v5.setRow w.heap.size B.toArray).heap[w.heap.size]? = some (.cells B.toArray 45 (0, 0)) ∧ (v5.setRow w.heap.size B.toArray).heap[w.heap.size + 1]? = some (.cells Z.toArray 45 (0, 0))) := ⟨below_setRow B5 (by omega) _, setRow_heap _ _ _ _ _ _ RX5, (setRow_other _ _ _ _ (by omega)).trans RZ5⟩
      obtain ⟨W6, hW6⟩ : ∃ W6, W6 = v5.setRow w.heap.size B.toArray := ⟨_, rfl⟩
      rw [← hW6] at H6 ⊢
      clear hW6 GK5 RX5 RZ5 B5 bc5 G5 R5 hHeld
      go_wp2_with fail
      go_roundw
      case rel =>
        refine ⟨n, j + 1, by have := HIJ.out; omega, by go_num, ?_⟩
        rw [← HB.out]
        exact H6
      case measure => simp [intOf]; omega
    · obtain rfl : i = 0 := by omega
      obtain rfl : j = q := by omega
      have cS := cS
      rw [show r - 1 = j by have := HQ.out; omega, ← hA] at cS
      clear hA cU hK cL
      go_wp2_with fail
      have G5 : IsKey wr k g r F := IsKey.later hk H5.out.1
      have R5 := H5.out.2.1
      refine wp_region_held_drew (S := fun w' => IsKey w' k g r F) (by kernel_rfl) ?_ (fun hHeld => ?_)
      · exact G5
      refine wpAnyH_take (i := 1) (v := ?_) rfl (by kernel_rfl) (by kernel_rfl) (by kernel_rfl) (fun _ _ _ h => h) (Or.inl ⟨by rfl, ?_⟩) (by assumption) ?_
      rotate_left
      · (intro w hSw; (have c0 := IsKey.tab hSw); (have c1 := IsKey.rounds hSw); clear hSw; simp only [List.getElem_toArray, List.getElem_cons_succ, List.getElem_cons_zero]; go_simp; try with_reducible rfl)
      simp only [Act.put, List.getElem_toArray, List.getElem_cons_succ, List.getElem_cons_zero, List.setIfInBounds_toArray, List.set_cons_zero, List.set_cons_succ]
      refine wpAnyH_take (i := 2) (v := ?_) rfl (by kernel_rfl) (by kernel_rfl) (by kernel_rfl) (fun _ _ _ h => h) (Or.inl ⟨by rfl, ?_⟩) (by assumption) ?_
      rotate_left
      · (intro w hSw; (have c0 := IsKey.tab hSw); (have c1 := IsKey.rounds hSw); clear hSw; simp only [List.getElem_toArray, List.getElem_cons_succ, List.getElem_cons_zero]; go_simp; try with_reducible rfl)
      simp only [Act.put, List.getElem_toArray, List.getElem_cons_succ, List.getElem_cons_zero, List.setIfInBounds_toArray, List.set_cons_zero, List.set_cons_succ]
      refine wpAnyH_take (i := 3) (v := ?_) rfl (by kernel_rfl) (by kernel_rfl) (by kernel_rfl) (fun _ _ _ h => h) (Or.inl ⟨by rfl, ?_⟩) (by assumption) ?_
      rotate_left
      · (intro w hSw; (have c0 := IsKey.tab hSw); (have c1 := IsKey.rounds hSw); clear hSw; simp only [List.getElem_toArray, List.getElem_cons_succ, List.getElem_cons_zero]; go_simp; try with_reducible rfl)
      simp only [Act.put, List.getElem_toArray, List.getElem_cons_succ, List.getElem_cons_zero, List.setIfInBounds_toArray, List.set_cons_zero, List.set_cons_succ]
      refine wpAnyH_take (i := 4) (v := ?_) rfl (by kernel_rfl) (by kernel_rfl) (by kernel_rfl) (fun _ _ _ h => h) (Or.inl ⟨by rfl, ?_⟩) (by assumption) ?_
      rotate_left
      · (intro w hSw; (have c0 := IsKey.tab hSw); (have c1 := IsKey.rounds hSw); clear hSw; simp only [List.getElem_toArray, List.getElem_cons_succ, List.getElem_cons_zero]; go_simp; try with_reducible rfl)
      simp only [Act.put, List.getElem_toArray, List.getElem_cons_succ, List.getElem_cons_zero, List.setIfInBounds_toArray, List.set_cons_zero, List.set_cons_succ]
      refine wpAnyH_take (i := 5) rfl (by kernel_rfl) (by kernel_rfl) (by kernel_rfl) (fun _ _ _ h => h) (yieldsIf_load_mid (by rfl) _ _ rfl _ _ rfl K0 _ (fun w hSw => hK0.out w hSw) Tryd.underlying45 rfl iK0) (by assumption) ?_
      simp only [Act.put, List.getElem_toArray, List.getElem_cons_succ, List.getElem_cons_zero, List.setIfInBounds_toArray, List.set_cons_zero, List.set_cons_succ]
      refine wpAnyH_ready (rs := [0]) (by kernel_rfl) (by simp) ?_
      refine AllReadyH.cons rfl (fun K hK => ?_) AllReadyH.nil
      rw [if_pos (by rfl)]
      refine wp_load_row 45 _ rfl w.heap.size rfl 45 A.toArray (0, 0) _ R5 Tryd.underlying45 rfl (by rw [sA]; rfl) (hK.out _ _ G5 (fun hHeld => ?_))
      clear hK K
      try simp only [Act.put, List.setIfInBounds_toArray, List.set_cons_zero, List.set_cons_succ]
      refine wpAnyH_ready (rs := [6]) (by kernel_rfl) (by simp) ?_
      refine AllReadyH.cons rfl (fun K hK => ?_) AllReadyH.nil
      simp only [List.getElem_toArray, List.getElem_cons_succ, List.getElem_cons_zero]
      go_simp
      refine (cS.out _).mono ?_
      rintro e v5 ⟨rfl, bc5⟩
      go_wp2_with fail
      refine hK.out _ _ ?_ (fun hHeld => ?_)
      · exact IsKey.later (w := wr.drew) G5 bc5
      clear hK K
      try simp only [Act.put, List.setIfInBounds_toArray, List.set_cons_zero, List.set_cons_succ]
      have B5 := below_two H5.out.1.drew bc5
      have RX5 := (bc5.block _ (Array.getElem?_eq_some_iff.1 H5.out.2.1).1).trans H5.out.2.1
      have RZ5 := (bc5.block _ (Array.getElem?_eq_some_iff.1 H5.out.2.2).1).trans H5.out.2.2
      have GK5 : IsKey (v5.setRow (w.heap.size + 1) X3.toArray) k g r F := IsKey.later hk (below_setRow B5 (by omega) _)
      refine wpAnyH_ready (rs := [7]) (by kernel_rfl) (by simp) ?_
      refine AllReadyH.cons rfl (fun K hK => ?_) AllReadyH.nil
      rw [if_pos (by rfl)]
      refine wp_store_row 45 _ _ rfl (w.heap.size + 1) X3.toArray rfl rfl 45 Z.toArray RZ5 (by rw [sX3]; rfl) (by rw [sX3, sZ]) oX3.out (hK.out _ _ GK5 (fun hHeld => ?_))
      clear hK K
      try simp only [Act.put, List.setIfInBounds_toArray, List.set_cons_zero, List.set_cons_succ]
      refine wpAnyH_done (by kernel_rfl) ?_ _
      go_wp2_with fail
      refine bodyPost_ret (v := .agg X3.toArray) (results_cell_row rfl _ _ (w.heap.size + 1) 45 X3.toArray (0, 0) _ rfl (setRow_heap _ _ _ _ _ _ RZ5) Tryd.underlying45 rfl (by rw [sX3]; rfl)) rfl ⟨rfl, ?_⟩
      exact below_setRow B5 (by omega) _
end Go.Proofs.YtdfbcdgneboilaaDoor
namespace Go.Proofs.YtdfbcdgneboilaaDoor
open Go.ChangeShapes Go.WideShapes Go.ChangeAt Go.RowKit
set_option maxRecDepth 20000

/-- A block on its way back. -/
def decU (F : Nat → Nat) (r : Nat) (f : Nat → Nat) : Nat → Nat → Nat
  | 0 => unl f fun x => F (16 * r + x)
  | j + 1 => unr (decU F r f j) fun x => F (16 * (r - 1 - j) + x)
/-- A block deciphered, by a key's bytes. -/
def decB (F : Nat → Nat) (r : Nat) (f : Nat → Nat) (i : Nat) : Nat := decU F r f (r - 1) i ^^^ F i
theorem decU_byt {F f : Nat → Nat} (hF : Byt F) (hf : Byt f) (r : Nat) : ∀ j, Byt (decU F r f j)
  | 0 => unl_byt hf fun _ => hF _
  | _ + 1 => unr_byt _ _
theorem decB_byt {F f : Nat → Nat} (hF : Byt F) (hf : Byt f) (r : Nat) : Byt (decB F r f) := fun i => xor_lt _ _ (decU_byt hF hf r _ i) (hF i)
theorem encB_byt {F f : Nat → Nat} (hF : Byt F) (hf : Byt f) (r : Nat) : Byt (encB F r f) :=
  lst_byt (rnds_byt (fun i => xor_lt _ _ (hf i) (hF i)) (fun _ _ => hF _) _) fun _ => hF _
theorem decrypt_any (k g r : Nat) (F f : Nat → Nat) (hF : Byt F) (hf : Byt f) (w : World) (hk : IsKey w k g r F) (ht : IsTab w g) (hr : 0 < r) (hr2 : r < 15) :
    Calls Tryd.prog 23 #[.pointer (some ⟨k, 0, none⟩), blkV f] w fun e w' => e = .returned (blkV (decB F r f)) ∧ Below w.heap.size w w' := by
  refine decrypt_core k g r F (fun j => bc 16 (decU F r f j)) (fun i => bc 16 fun j => F (16 * i + j)) (bc 16 f) (bc 16 (decB F r f)) (bc 16 fun j => F (16 * 0 + j)) (bc 16 fun j => F (16 * r + j)) w hk hr hr2
    (by rw [List.size_toArray, bc_len]) (fun j => by rw [List.size_toArray, bc_len]) (by rw [List.size_toArray, bc_len]) (fun j => bc_one _ _) (bc_one _ _) (by rw [bc_len]; rfl) (by rw [bc_len]; rfl) (fun i => by rw [bc_len]; rfl)
    (fun w' h => by have := h.at 0 (by omega); rwa [Nat.zero_mul] at this) (fun w' h => h.at r hr2) (fun i hi w' h => h.at i hi) (fun w' hb => ?_) (fun i j hij w' hb => ?_) (fun w' => ?_)
  · exact unlast_any g f (fun x => F (16 * r + x)) hf (fun _ => hF _) w' (ht.later hb)
  · have := unround_any g (decU F r f j) (fun x => F (16 * (i + 1) + x)) (decU_byt hF hf r j) (fun _ => hF _) w' (ht.later hb)
    rw [show i + 1 = r - 1 - j by omega] at this ⊢
    exact this
  · have := sum_any (decU F r f (r - 1)) (fun j => F (16 * 0 + j)) (decU_byt hF hf r _) (fun j => hF _) w'
    rw [bc_congr (f := fun i => decU F r f (r - 1) i ^^^ F (16 * 0 + i)) (g := decB F r f) fun i _ => by rw [Nat.mul_zero, Nat.zero_add]; rfl] at this
    exact this

/-! There and back. -/
theorem back_step {F f : Nat → Nat} (hF : Byt F) (hf : Byt f) (r : Nat) : ∀ j, j ≤ r - 1 → ∀ i, i < 16 → decU F r (encB F r f) j i = rnds (fun i => f i ^^^ F i) (fun i j => F (16 * (i + 1) + j)) (r - 1 - j) i
  | 0, _, i, hi => unl_lst (rnds_byt (fun i => xor_lt _ _ (hf i) (hF i)) (fun _ _ => hF _) _) i hi
  | j + 1, hj, i, hi => by
    have ih := back_step hF hf r j (by omega)
    obtain ⟨m, hm⟩ : ∃ m, r - 1 - j = m + 1 := ⟨r - 1 - j - 1, by omega⟩
    show unr (decU F r (encB F r f) j) (fun x => F (16 * (r - 1 - j) + x)) i = _
    rw [unr_congr ih (fun _ _ => rfl) i hi, hm, show r - 1 - (j + 1) = m by omega]
    exact unr_rnd (rnds_byt (fun i => xor_lt _ _ (hf i) (hF i)) (fun _ _ => hF _) _) i hi
theorem dec_enc {F f : Nat → Nat} (hF : Byt F) (hf : Byt f) (r : Nat) (i : Nat) (hi : i < 16) : decB F r (encB F r f) i = f i := by
  unfold decB
  rw [back_step hF hf r (r - 1) (Nat.le_refl _) i hi, Nat.sub_self]
  exact xor_twice _ _
theorem forth_step {F f : Nat → Nat} (hF : Byt F) (hf : Byt f) (r : Nat) : ∀ m, m ≤ r - 1 → ∀ i, i < 16 → rnds (fun i => decB F r f i ^^^ F i) (fun i j => F (16 * (i + 1) + j)) m i = decU F r f (r - 1 - m) i
  | 0, _, i, _ => xor_twice _ _
  | m + 1, hm, i, hi => by
    have ih := forth_step hF hf r m (by omega)
    obtain ⟨j, hj⟩ : ∃ j, r - 1 - m = j + 1 := ⟨r - 1 - m - 1, by omega⟩
    show rnd (rnds (fun i => decB F r f i ^^^ F i) (fun i j => F (16 * (i + 1) + j)) m) (fun x => F (16 * (m + 1) + x)) i = _
    rw [rnd_congr ih (fun _ _ => rfl) i hi, hj, show r - 1 - (m + 1) = j by omega]
    show rnd (unr (decU F r f j) fun x => F (16 * (r - 1 - j) + x)) (fun x => F (16 * (m + 1) + x)) i = _
    rw [show r - 1 - j = m + 1 by omega]
    exact rnd_unr (decU_byt hF hf r j) (fun _ => hF _) i hi
theorem enc_dec {F f : Nat → Nat} (hF : Byt F) (hf : Byt f) (r : Nat) (i : Nat) (hi : i < 16) : encB F r (decB F r f) i = f i := by
  unfold encB
  rw [lst_congr (forth_step hF hf r (r - 1) (Nat.le_refl _)) (fun _ _ => rfl) i hi, Nat.sub_self]
  exact lst_unl hf (fun _ => hF _) i hi
theorem encB_congr {F f f' : Nat → Nat} (r : Nat) (h : ∀ i, i < 16 → f i = f' i) : ∀ i, i < 16 → encB F r f i = encB F r f' i := by
  have hr : ∀ n i, i < 16 → rnds (fun i => f i ^^^ F i) (fun i j => F (16 * (i + 1) + j)) n i = rnds (fun i => f' i ^^^ F i) (fun i j => F (16 * (i + 1) + j)) n i := fun n => by
    induction n with
    | zero => intro i hi; show f i ^^^ F i = f' i ^^^ F i; rw [h i hi]
    | succ n ih => exact rnd_congr ih fun _ _ => rfl
  exact lst_congr (hr _) fun _ _ => rfl
end Go.Proofs.YtdfbcdgneboilaaDoor
