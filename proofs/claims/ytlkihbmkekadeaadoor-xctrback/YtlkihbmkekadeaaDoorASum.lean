/- Own: sum of layer 4 (no statement is proved here). -/
import Derived.Test.YtlkihbmkekadeaaDoorOBlock
namespace Go.Proofs.YtlkihbmkekadeaaDoor
open Go.ChangeShapes Go.WideShapes Go.ChangeAt Go.RowKit
set_option maxRecDepth 20000

set_option linter.unusedSimpArgs false in
set_option maxRecDepth 100000 in
set_option maxHeartbeats 1600000 in
theorem sum_core (X Y V : List Value) (w : World) (xs : List UInt8) (sV : V.toArray.size = 16) (oV : Hid (V.toArray.all (·.oneCell') = true))
    (cX : Hid (∀ w', w'.heap[w.heap.size]? = some (.cells X.toArray 31 (0, 0)) → w'.heap[w.heap.size + 1]? = some (.cells Y.toArray 31 (0, 0)) → Calls Tryd.prog 57 #[.slice (some ⟨w.heap.size, 0, none⟩) 16 16, .slice (some ⟨w.heap.size + 1, 0, none⟩) 16 16] w' fun e w'' => ∃ v, e = .returned v ∧ IsB w'' v xs ∧ Below w'.heap.size w' w''))
    (cB : Hid (∀ w' v, IsB w' v xs → Calls Tryd.prog 56 #[v] w' fun e w'' => e = .returned (.agg V.toArray) ∧ Below w'.heap.size w' w'')) :
    Calls Tryd.prog 43 #[.agg X.toArray, .agg Y.toArray] w fun e w' => e = .returned (.agg V.toArray) ∧ Below w.heap.size w w' := by
  obtain ⟨Z, hZ⟩ : ∃ Z, Z = bc 16 (fun _ => 0) := ⟨_, rfl⟩
  have hz := zero16
  rw [← hZ] at hz
  have sZ : Z.toArray.size = 16 := by rw [hZ, List.size_toArray, bc_len]
  clear hZ
  go_enter Tryd.func43, Tryd.ntmps43
  go_wp2_with fail
  have s' : ∀ (w : World) (o : Obj), (w.alloc o).heap.size = w.heap.size + 1 := fun w o => by simp
  have rZ : (((w.alloc (.cells X.toArray 31)).alloc (.cells Y.toArray 31)).alloc (.cells Z.toArray 31)).heap[w.heap.size + 1 + 1]? = some (.cells Z.toArray 31 (0, 0)) := by
    rw [← s' w (.cells X.toArray 31), ← s' _ (.cells Y.toArray 31)]; exact heap_alloc_new _ _
  have rY : (((w.alloc (.cells X.toArray 31)).alloc (.cells Y.toArray 31)).alloc (.cells Z.toArray 31)).heap[w.heap.size + 1]? = some (.cells Y.toArray 31 (0, 0)) := by
    rw [← s' w (.cells X.toArray 31)]; exact heap_alloc2_old _ _ _
  have bA : Below w.heap.size w (w.alloc (.cells X.toArray 31)) := below_alloc (Below.refl _ _) _
  have rX : (((w.alloc (.cells X.toArray 31)).alloc (.cells Y.toArray 31)).alloc (.cells Z.toArray 31)).heap[w.heap.size]? = some (.cells X.toArray 31 (0, 0)) := by
    have n : (w.alloc (.cells X.toArray 31)).heap[w.heap.size]? = some (.cells X.toArray 31 (0, 0)) := heap_alloc_new _ _
    have b : Below (w.alloc (.cells X.toArray 31)).heap.size (w.alloc (.cells X.toArray 31)) (((w.alloc (.cells X.toArray 31)).alloc (.cells Y.toArray 31)).alloc (.cells Z.toArray 31)) := below_alloc (below_alloc (Below.refl _ _) _) _
    exact (b.block _ (by rw [s']; omega)).trans n
  have BW : Below w.heap.size w (((w.alloc (.cells X.toArray 31)).alloc (.cells Y.toArray 31)).alloc (.cells Z.toArray 31)) := below_alloc (below_alloc bA _) _
  obtain ⟨W, hW⟩ : ∃ W, W = (((w.alloc (.cells X.toArray 31)).alloc (.cells Y.toArray 31)).alloc (.cells Z.toArray 31)) := ⟨_, rfl⟩
  rw [← hW] at rX rY rZ BW ⊢
  clear hW bA s' hz
  refine wp_region_held_drew (S := fun _ => True) (by kernel_rfl) ?_ (fun hHeld => ?_)
  · trivial
  refine wpAnyH_take (i := 0) (v := ?_) rfl (by kernel_rfl) (by kernel_rfl) (by kernel_rfl) (fun _ _ _ h => h) (Or.inl ⟨by rfl, ?_⟩) (by assumption) ?_
  rotate_left
  · (intro w hSw; (try dsimp only at hSw); simp only [List.getElem_toArray, List.getElem_cons_zero]; go_simp; try with_reducible rfl)
  simp only [Act.put, List.getElem_toArray, List.getElem_cons_zero, List.setIfInBounds_toArray, List.set_cons_zero, List.set_cons_succ]
  refine wpAnyH_take (i := 1) (v := ?_) rfl (by kernel_rfl) (by kernel_rfl) (by kernel_rfl) (fun _ _ _ h => h) (Or.inl ⟨by rfl, ?_⟩) (by assumption) ?_
  rotate_left
  · (intro w hSw; (try dsimp only at hSw); simp only [List.getElem_toArray, List.getElem_cons_succ, List.getElem_cons_zero]; go_simp; try with_reducible rfl)
  simp only [Act.put, List.getElem_toArray, List.getElem_cons_succ, List.getElem_cons_zero, List.setIfInBounds_toArray, List.set_cons_zero, List.set_cons_succ]
  refine wpAnyH_ready (rs := [2]) (by kernel_rfl) (by simp) ?_
  refine AllReadyH.cons rfl (fun K hK => ?_) AllReadyH.nil
  simp only [List.getElem_toArray, List.getElem_cons_succ, List.getElem_cons_zero]
  go_simp
  refine (cX.out W.drew rX rY).mono ?_
  rintro e w2 ⟨v, rfl, hv, b2⟩
  go_wp2_with fail
  refine hK.out _ _ ?_ (fun hHeld => ?_)
  · trivial
  clear hK K
  try simp only [Act.put, List.setIfInBounds_toArray, List.set_cons_zero, List.set_cons_succ]
  refine wpAnyH_ready (rs := [3]) (by kernel_rfl) (by simp) ?_
  refine AllReadyH.cons rfl (fun K hK => ?_) AllReadyH.nil
  simp only [List.getElem_toArray, List.getElem_cons_succ, List.getElem_cons_zero]
  go_simp
  refine (cB.out _ _ hv).mono ?_
  rintro e w3 ⟨rfl, b3⟩
  go_wp2_with fail
  refine hK.out _ _ ?_ (fun hHeld => ?_)
  · trivial
  clear hK K
  try simp only [Act.put, List.setIfInBounds_toArray, List.set_cons_zero, List.set_cons_succ]
  have b23 := below_two b2 b3
  have RZ3 := (b23.block _ (Array.getElem?_eq_some_iff.1 rZ).1).trans rZ
  have BW3 := below_two BW.drew b23
  refine wpAnyH_ready (rs := [4]) (by kernel_rfl) (by simp) ?_
  refine AllReadyH.cons rfl (fun K hK => ?_) AllReadyH.nil
  rw [if_pos (by rfl)]
  refine wp_store_row 31 _ _ rfl (w.heap.size + 1 + 1) V.toArray rfl rfl 31 Z.toArray RZ3 (by rw [sV]; rfl) (by rw [sV, sZ]) oV.out (hK.out _ _ trivial (fun hHeld => ?_))
  clear hK K
  try simp only [Act.put, List.setIfInBounds_toArray, List.set_cons_zero, List.set_cons_succ]
  refine wpAnyH_done (by kernel_rfl) ?_ _
  go_wp2_with fail
  refine bodyPost_ret (v := .agg V.toArray) (results_cell_row rfl _ _ (w.heap.size + 1 + 1) 31 V.toArray (0, 0) _ rfl (setRow_heap _ _ _ _ _ _ RZ3) Tryd.underlying31 rfl (by rw [sV]; rfl)) rfl ⟨rfl, ?_⟩
  exact below_setRow BW3 (by omega) _
theorem sum_any (x y : Nat → Nat) (hx : Byt x) (hy : Byt y) (w : World) : Calls Tryd.prog 43 #[.agg (bc 16 x).toArray, .agg (bc 16 y).toArray] w fun e w' => e = .returned (.agg (bc 16 fun i => x i ^^^ y i).toArray) ∧ Below w.heap.size w w' := by
  have isb : ∀ (f : Nat → Nat) (g : Nat) (w' : World), Byt f → w'.heap[g]? = some (.cells (bc 16 f).toArray 31 (0, 0)) → IsB w' (.slice (some ⟨g, 0, none⟩) 16 16) (toB 16 f) := fun f g w' hf h =>
    ⟨by rw [toB_len]; decide, _, 16, by rw [toB_len], .inr ⟨g, 0, rfl, fun i hi => by
      rw [toB_len] at hi
      rw [Nat.zero_add, row_cell h i hi]
      have := toB_get 16 f hf i hi
      unfold lf at this
      rw [this]⟩⟩
  have e : bcells (blk (xors (toB 16 x) (toB 16 y))) = bc 16 fun i => x i ^^^ y i := by
    rw [bcells_bc, length_blk]
    refine bc_congr fun i hi => ?_
    show ((blk (xors (toB 16 x) (toB 16 y))).getD i 0).toNat = _
    rw [blk_get _ _ hi, xors_get _ _ _ (by rw [toB_len, toB_len]; omega), UInt8.toNat_xor]
    have h1 := toB_get 16 x hx i hi
    have h2 := toB_get 16 y hy i hi
    unfold lf at h1 h2
    rw [h1, h2]
  refine sum_core (bc 16 x) (bc 16 y) (bc 16 fun i => x i ^^^ y i) w (xors (toB 16 x) (toB 16 y)) (by rw [List.size_toArray, bc_len]) (bc_one _ _) (fun w' h1 h2 => ?_) (fun w' v hv => ?_)
  · refine (xor_any _ _ _ _ w' (isb x _ w' hx h1) (isb y _ w' hy h2) (by rw [toB_len]; decide) (by rw [toB_len]; decide)).mono ?_
    rintro e w'' ⟨r, rfl, ho, hb⟩
    exact ⟨r, rfl, ho.isB, hb⟩
  · have := block_any v _ w' hv
    rw [e] at this
    exact this
end Go.Proofs.YtlkihbmkekadeaaDoor
