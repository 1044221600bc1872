/- Own: the walk of TurnLocal, with letters (no statement is proved here): for every block, key, place and byte TurnLocal returns true and leaves its argument as it was (a byte that is another one changes just the four bytes of one column, all of them; in a last round just one byte), where the two tables of coefficients lie as the program's text lays them; no other condition. -/
import Derived.Test.YtejhnpgolpjleaaDoorTurnKeysLaw
import Derived.Test.YtejhnpgolpjleaaDoorKeysArg
namespace Go.Proofs.YtejhnpgolpjleaaDoor
open Go.ChangeShapes Go.WideShapes Go.ChangeAt Go.RowKit

theorem local_none (B : Array Value) (h0 : B[33]? = some (.int .u8 0)) (w : World) : Calls Tryd.prog 10 #[.agg B] w fun e w' => e = .returned (.bool true) ∧ Below w.heap.size w w' := by
  have hR := heap_alloc_new w (.cells B 42)
  have c1 : (w.alloc (.cells B 42)).cell? ⟨w.heap.size, 33, none⟩ = some (.int .u8 0) := by rw [cell_of_row _ _ _ _ _ _ hR]; exact h0
  clear hR
  go_enter Tryd.func10, Tryd.ntmps10
  go_wp2
  go_ret
  exact ⟨rfl, below_alloc (Below.refl _ _) _⟩
theorem keptl {W0 W W' : World} {p q : Nat} {X Y C : List Value} (h : Below W0.heap.size W0 W ∧ W.rangeAt p 0 X ∧ W.rangeAt p 16 Y ∧ W.rangeAt q 0 C) (hb : Below W.heap.size W W') : Below W0.heap.size W0 W' ∧ W'.rangeAt p 0 X ∧ W'.rangeAt p 16 Y ∧ W'.rangeAt q 0 C :=
  ⟨below_two h.1 hb, range_later h.2.1 hb, fun j v hj => Go.Proofs.YtejhnpgolpjleaaDoor.later hb (h.2.2.1 j v hj), range_later h.2.2.2 hb⟩
theorem keptls {W0 W : World} {p q : Nat} {X Y C : List Value} (h : Below W0.heap.size W0 W ∧ W.rangeAt p 0 X ∧ W.rangeAt p 16 Y ∧ W.rangeAt q 0 C) (g : Nat) (hg : W0.heap.size ≤ g) (V : Array Value) (hp : p < W0.heap.size) (hq : q < W0.heap.size) :
    Below W0.heap.size W0 (W.setRow g V) ∧ (W.setRow g V).rangeAt p 0 X ∧ (W.setRow g V).rangeAt p 16 Y ∧ (W.setRow g V).rangeAt q 0 C :=
  ⟨below_setRow h.1 hg _, range_setRow' h.2.1 (by omega) _, range_setRow' h.2.2.1 (by omega) _, range_setRow' h.2.2.2 (by omega) _⟩
set_option linter.unusedSimpArgs false in
set_option maxRecDepth 100000 in
set_option maxHeartbeats 16000000 in
theorem local_core (X Y C A0 A1 A2 A3 Z : List Value) (B : Array Value) (t0 at' y xa ca col : Nat) (x0 x1 x2 x3 : Nat → Nat) (hX : X.length = 16) (hY : Y.length = 16) (hC : C.length = 16) (w : World)
    (rBX : Hid (∀ (j : Nat) (v : Value), X[j]? = some v → B[j]? = some v)) (rBY : Hid (∀ (j : Nat) (v : Value), Y[j]? = some v → B[16 + j]? = some v)) (hAt : Hid (B[32]? = some (.int .u8 (t0 : Nat)))) (hBy : Hid (B[33]? = some (.int .u8 (y : Nat)))) (hy : ((y : Int) == 0) = false) (hat : t0 % 16 = at')
    (hxa : Hid (X[at']? = some (.int .u8 (xa : Nat)))) (hca : Hid (bits .xor .u8 (xa : Nat) (y : Nat) = ((ca : Nat) : Int))) (hCX : Hid (X.set at' (.int .u8 (ca : Nat)) = C)) (hcol : col = (at' / 4 + 4 - at' % 4) % 4)
    (oX : Hid (X.toArray.all (·.oneCell') = true))
    (sZ : Z.toArray.size = 16) (sA0 : A0.toArray.size = 16) (sA1 : A1.toArray.size = 16) (sA2 : A2.toArray.size = 16) (sA3 : A3.toArray.size = 16)
    (oA0 : Hid (A0.toArray.all (·.oneCell') = true)) (oA1 : Hid (A1.toArray.all (·.oneCell') = true)) (oA2 : Hid (A2.toArray.all (·.oneCell') = true)) (oA3 : Hid (A3.toArray.all (·.oneCell') = true))
    (hz : ∀ w, (zeroValue 22).run Tryd.prog w = .ok (.agg Z.toArray) w)
    (g0 : Hid (∀ i, i < 16 → A0[i]? = some (.int .u8 (x0 i : Nat)))) (g1 : Hid (∀ i, i < 16 → A1[i]? = some (.int .u8 (x1 i : Nat)))) (g2 : Hid (∀ i, i < 16 → A2[i]? = some (.int .u8 (x2 i : Nat)))) (g3 : Hid (∀ i, i < 16 → A3[i]? = some (.int .u8 (x3 i : Nat))))
    (hx : Hid (∀ i, i < 16 → (x0 i ≠ x1 i ↔ i / 4 = col) ∧ (x2 i ≠ x3 i ↔ i = 4 * col + at' % 4)))
    (cT : Hid (∀ w', Below w.heap.size w w' → Calls Tryd.prog 11 #[] w' fun e w'' => (∃ g, e = .returned (.pointer (some ⟨g, 0, none⟩)) ∧ IsTab w'' g) ∧ Below w'.heap.size w' w''))
    (cA : Hid (∀ w', Below w.heap.size w w' → Calls Tryd.prog 18 #[] w' fun e w'' => e = .returned (.bool true) ∧ Below w'.heap.size w' w''))
    (d0 : Hid (∀ g w', IsTab w' g → Calls Tryd.prog 13 #[.pointer (some ⟨g, 0, none⟩), .agg X.toArray, .agg Y.toArray] w' fun e w'' => e = .returned (.agg A0.toArray) ∧ Below w'.heap.size w' w''))
    (d1 : Hid (∀ g w', IsTab w' g → Calls Tryd.prog 13 #[.pointer (some ⟨g, 0, none⟩), .agg C.toArray, .agg Y.toArray] w' fun e w'' => e = .returned (.agg A1.toArray) ∧ Below w'.heap.size w' w''))
    (d2 : Hid (∀ g w', IsTab w' g → Calls Tryd.prog 14 #[.pointer (some ⟨g, 0, none⟩), .agg X.toArray, .agg Y.toArray] w' fun e w'' => e = .returned (.agg A2.toArray) ∧ Below w'.heap.size w' w''))
    (d3 : Hid (∀ g w', IsTab w' g → Calls Tryd.prog 14 #[.pointer (some ⟨g, 0, none⟩), .agg C.toArray, .agg Y.toArray] w' fun e w'' => e = .returned (.agg A3.toArray) ∧ Below w'.heap.size w' w'')) :
    Calls Tryd.prog 10 #[.agg B] w fun e w' => e = .returned (.bool true) ∧ Below w.heap.size w w' := by
  have iX : (Tryd.prog.info? 22).map (·.size) = some X.length := by rw [hX]; rfl
  have iY : (Tryd.prog.info? 22).map (·.size) = some Y.length := by rw [hY]; rfl
  have iC : (Tryd.prog.info? 22).map (·.size) = some C.length := by rw [hC]; rfl
  have sX : X.toArray.size = 16 := by rw [List.size_toArray, hX]
  have hR := hide (heap_alloc_new w (.cells B 42))
  have b0 := below_alloc (Below.refl w.heap.size w) (.cells B 42)
  have c33 : (w.alloc (.cells B 42)).cell? ⟨w.heap.size, 33, none⟩ = some (.int .u8 (y : Nat)) := by rw [cell_of_row _ _ _ _ _ _ hR.out]; exact hBy.out
  have K0 := hide (cT.out _ b0)
  go_enter Tryd.func10, Tryd.ntmps10
  go_wp2_with fail
  refine (K0.out).mono ?_
  rintro e W1 ⟨⟨g, rfl, ht⟩, b1⟩
  have hR1 : W1.heap[w.heap.size]? = some (.cells B 42 (0, 0)) := (b1.block _ (by simp)).trans hR.out
  have c32 : W1.cell? ⟨w.heap.size, 32, none⟩ = some (.int .u8 (t0 : Nat)) := by rw [cell_of_row _ _ _ _ _ _ hR1]; exact hAt.out
  have rX : Hid (W1.rangeAt w.heap.size 0 X) := fun j v hj => by rw [Nat.zero_add, cell_of_row _ _ _ _ _ _ hR1]; exact rBX.out j v hj
  obtain ⟨nb, nr⟩ := new_row W1 Z.toArray X.toArray 22
  have HT := hide (ht.later nb)
  have BW := hide (below_two b0 (below_two b1 nb))
  have HR2 := hide ((nb.block w.heap.size (Array.getElem?_eq_some_iff.1 hR1).1).trans hR1)
  have NR := hide nr
  have hwp : w.heap.size < W1.heap.size := (Array.getElem?_eq_some_iff.1 hR1).1
  clear b1 ht c33 hR K0 hR1 nb nr b0
  go_wp2_with (first
    | (refine wpList_load_mid rfl 22 _ rfl w.heap.size 0 rfl X _ rX.out Tryd.underlying22 rfl iX ?_)
    | (refine wpList_store_row rfl 22 _ _ rfl W1.heap.size X.toArray rfl rfl 22 _ (heap_alloc_new _ _) (by rw [sX]; rfl) (by rw [sX, sZ]) oX.out ?_))
  rw [show ((t0 : Int) % 16) = (at' : Int) by omega]
  obtain ⟨p, hp⟩ : ∃ p, p = W1.heap.size := ⟨_, rfl⟩
  obtain ⟨W2, hW2⟩ : ∃ W2, W2 = (W1.alloc (.cells Z.toArray 22)).setRow W1.heap.size X.toArray := ⟨_, rfl⟩
  rw [← hW2] at HT BW HR2 NR ⊢
  rw [← hp] at NR hwp ⊢
  have hat16 : at' < 16 := by omega
  have cBy : W2.cell? ⟨w.heap.size, 33, none⟩ = some (.int .u8 (y : Nat)) := by rw [cell_of_row _ _ _ _ _ _ HR2.out]; exact hBy.out
  have cXa : W2.cell? ⟨p, at', none⟩ = some (.int .u8 (xa : Nat)) := by rw [cell_of_row _ _ _ _ _ _ NR.out]; simpa using hxa.out
  have fXa : W2.frozen? ⟨p, at', none⟩ = false := frozen_of_row _ _ _ _ _ NR.out
  have i1 : (at' : Int) < 16 := by omega
  have hca' := hca.out
  clear hp hW2 rX c32
  go_wp2_with fail
  refine wp_region_held_drew (S := fun w' => w'.cell? ⟨w.heap.size, 33, none⟩ = some (.int .u8 (y : Nat))) (by kernel_rfl) ?_ (fun hHeld => ?_)
  · exact cBy
  refine wpAnyH_take (i := 0) (v := ?_) rfl (by kernel_rfl) (by kernel_rfl) (by kernel_rfl) (fun _ _ _ h => h) (Or.inl ⟨by rfl, ?_⟩) (by assumption) ?_
  rotate_left
  · (intro w hSw; (try dsimp only at hSw); simp only [List.getElem_toArray, List.getElem_cons_zero]; go_simp; try with_reducible rfl)
  simp only [Act.put, List.getElem_toArray, List.getElem_cons_zero, List.setIfInBounds_toArray, List.set_cons_zero, List.set_cons_succ]
  refine wpAnyH_take (i := 1) (v := ?_) rfl (by kernel_rfl) (by kernel_rfl) (by kernel_rfl) (fun _ _ _ h => h) (Or.inl ⟨by rfl, ?_⟩) (by assumption) ?_
  rotate_left
  · (intro w hSw; (try dsimp only at hSw); simp only [List.getElem_toArray, List.getElem_cons_succ, List.getElem_cons_zero]; go_simp; try with_reducible rfl)
  simp only [Act.put, List.getElem_toArray, List.getElem_cons_succ, List.getElem_cons_zero, List.setIfInBounds_toArray, List.set_cons_zero, List.set_cons_succ]
  refine wpAnyH_take (i := 3) (v := ?_) rfl (by kernel_rfl) (by kernel_rfl) (by kernel_rfl) (fun _ _ _ h => h) (Or.inl ⟨by rfl, ?_⟩) (by assumption) ?_
  rotate_left
  · (intro w hSw; (try dsimp only at hSw); simp only [List.getElem_toArray, List.getElem_cons_succ, List.getElem_cons_zero]; go_simp; try with_reducible rfl)
  simp only [Act.put, List.getElem_toArray, List.getElem_cons_succ, List.getElem_cons_zero, List.setIfInBounds_toArray, List.set_cons_zero, List.set_cons_succ]
  refine wpAnyH_take (i := 4) (v := ?_) rfl (by kernel_rfl) (by kernel_rfl) (by kernel_rfl) (fun _ _ _ h => h) (Or.inl ⟨by rfl, ?_⟩) (by assumption) ?_
  rotate_left
  · (intro w hSw; (try dsimp only at hSw); simp only [List.getElem_toArray, List.getElem_cons_succ, List.getElem_cons_zero]; go_simp; try with_reducible rfl)
  simp only [Act.put, List.getElem_toArray, List.getElem_cons_succ, List.getElem_cons_zero, List.setIfInBounds_toArray, List.set_cons_zero, List.set_cons_succ]
  refine wpAnyH_ready (rs := [2]) (by kernel_rfl) (by simp) ?_
  refine AllReadyH.cons rfl (fun K hK => ?_) AllReadyH.nil
  simp only [List.getElem_toArray, List.getElem_cons_succ, List.getElem_cons_zero]
  go_simp
  refine hK.out _ _ ?_ (fun hHeld => ?_)
  · exact hHeld
  clear hK K
  try simp only [Act.put, List.setIfInBounds_toArray, List.set_cons_zero, List.set_cons_succ]
  refine wpAnyH_take (i := 5) (v := ?_) rfl (by kernel_rfl) (by kernel_rfl) (by kernel_rfl) (fun _ _ _ h => h) (Or.inl ⟨by rfl, ?_⟩) (by assumption) ?_
  rotate_left
  · (intro w hSw; (try dsimp only at hSw); simp only [List.getElem_toArray, List.getElem_cons_succ, List.getElem_cons_zero]; go_simp; try with_reducible rfl)
  simp only [Act.put, List.getElem_toArray, List.getElem_cons_succ, List.getElem_cons_zero, List.setIfInBounds_toArray, List.set_cons_zero, List.set_cons_succ]
  refine wpAnyH_take (i := 6) (v := ?_) rfl (by kernel_rfl) (by kernel_rfl) (by kernel_rfl) (fun _ _ _ h => h) (Or.inl ⟨by rfl, ?_⟩) (by assumption) ?_
  rotate_left
  · (intro w hSw; (try dsimp only at hSw); simp only [List.getElem_toArray, List.getElem_cons_succ, List.getElem_cons_zero]; go_simp; try with_reducible rfl)
  simp only [Act.put, List.getElem_toArray, List.getElem_cons_succ, List.getElem_cons_zero, List.setIfInBounds_toArray, List.set_cons_zero, List.set_cons_succ]
  refine wpAnyH_ready (rs := [7]) (by kernel_rfl) (by simp) ?_
  refine AllReadyH.cons rfl (fun K hK => ?_) AllReadyH.nil
  simp only [List.getElem_toArray, List.getElem_cons_succ, List.getElem_cons_zero]
  go_simp
  refine hK.out _ _ ?_ (fun hHeld => ?_)
  · exact far hHeld (by show w.heap.size ≠ p; omega)
  clear hK K
  try simp only [Act.put, List.setIfInBounds_toArray, List.set_cons_zero, List.set_cons_succ]
  refine wpAnyH_done (by kernel_rfl) ?_ _
  have NR3 : (W2.setCell ⟨p, at', none⟩ (.int .u8 (ca : Nat))).heap[p]? = some (.cells C.toArray 22 (0, 0)) := by
    rw [heap_setCell_same _ _ _ _ _ _ NR.out, List.setIfInBounds_toArray, hCX.out]
  have HR3 : (W2.setCell ⟨p, at', none⟩ (.int .u8 (ca : Nat))).heap[w.heap.size]? = some (.cells B 42 (0, 0)) := by
    rw [heap_setCell_other _ _ _ _ (by show w.heap.size ≠ p; omega)]; exact HR2.out
  obtain ⟨W0, hW0⟩ : ∃ W0, W0 = (W2.setCell ⟨p, at', none⟩ (.int .u8 (ca : Nat))).drew := ⟨_, rfl⟩
  have NRC : W0.heap[p]? = some (.cells C.toArray 22 (0, 0)) := by rw [hW0]; exact NR3
  have HRB : W0.heap[w.heap.size]? = some (.cells B 42 (0, 0)) := by rw [hW0]; exact HR3
  have BW0 : Hid (Below w.heap.size w W0) := by rw [hW0]; exact (BW.out.setCell (by show w.heap.size ≤ p; omega) _).drew
  have HTg : g ≠ p := fun e => by
    have h1 := HT.out
    unfold IsTab at h1
    rw [e, NR.out] at h1
    injection h1 with h1
    injection h1 with h1 h2
    exact absurd h2 (by decide)
  have HT0 : Hid (IsTab W0 g) := by
    rw [hW0]
    show (W2.setCell _ _).heap[g]? = _
    rw [heap_setCell_other _ _ _ _ (by show g ≠ p; exact HTg)]
    exact HT.out
  rw [← hW0]
  have rX : W0.rangeAt w.heap.size 0 X := fun j v hj => by rw [Nat.zero_add, cell_of_row _ _ _ _ _ _ HRB]; exact rBX.out j v hj
  have rY : W0.rangeAt w.heap.size 16 Y := fun j v hj => by rw [cell_of_row _ _ _ _ _ _ HRB]; exact rBY.out j v hj
  have rC : W0.rangeAt p 0 C := fun j v hj => by rw [Nat.zero_add, cell_of_row _ _ _ _ _ _ NRC]; simpa using hj
  have LX : w.heap.size < W0.heap.size := (Array.getElem?_eq_some_iff.1 HRB).1
  have LP : p < W0.heap.size := (Array.getElem?_eq_some_iff.1 NRC).1
  have c0 := hide (fun w' (hb : Below W0.heap.size W0 w') => d0.out g w' (HT0.out.later hb))
  have c1 := hide (fun w' (hb : Below W0.heap.size W0 w') => d1.out g w' (HT0.out.later hb))
  have c2 := hide (fun w' (hb : Below W0.heap.size W0 w') => d2.out g w' (HT0.out.later hb))
  have c3 := hide (fun w' (hb : Below W0.heap.size W0 w') => d3.out g w' (HT0.out.later hb))
  clear hW0 NR3 HR3 NRC HRB HT BW HR2 NR cBy cXa fXa hHeld hca'
  go_wp2_with fail
  refine wp_region_held_drew (S := fun w' => Below W0.heap.size W0 w' ∧ w'.rangeAt w.heap.size 0 X ∧ w'.rangeAt w.heap.size 16 Y ∧ w'.rangeAt p 0 C) (by kernel_rfl) ?_ (fun hHeld => ?_)
  · exact ⟨(Below.refl _ _).drew, rX, rY, rC⟩
  refine wpAnyH_take (i := 0) (v := ?_) rfl (by kernel_rfl) (by kernel_rfl) (by kernel_rfl) (fun _ _ _ h => h) (Or.inl ⟨by rfl, ?_⟩) (by assumption) ?_
  rotate_left
  · (intro w hSw; (try dsimp only at hSw); simp only [List.getElem_toArray, List.getElem_cons_zero]; go_simp; try with_reducible rfl)
  simp only [Act.put, List.getElem_toArray, List.getElem_cons_zero, List.setIfInBounds_toArray, List.set_cons_zero, List.set_cons_succ]
  refine wpAnyH_take (i := 1) (v := ?_) rfl (by kernel_rfl) (by kernel_rfl) (by kernel_rfl) (fun _ _ _ h => h) (Or.inl ⟨by rfl, ?_⟩) (by assumption) ?_
  rotate_left
  · (intro w hSw; (try dsimp only at hSw); simp only [List.getElem_toArray, List.getElem_cons_succ, List.getElem_cons_zero]; go_simp; try with_reducible rfl)
  simp only [Act.put, List.getElem_toArray, List.getElem_cons_succ, List.getElem_cons_zero, List.setIfInBounds_toArray, List.set_cons_zero, List.set_cons_succ]
  refine wpAnyH_take (i := 2) rfl (by kernel_rfl) (by kernel_rfl) (by kernel_rfl) (fun _ _ _ h => h) (yieldsIf_load_mid (by rfl) _ _ rfl _ _ rfl X _ (fun w hSw => hSw.2.1) Tryd.underlying22 rfl iX) (by assumption) ?_
  simp only [Act.put, List.getElem_toArray, List.getElem_cons_succ, List.getElem_cons_zero, List.setIfInBounds_toArray, List.set_cons_zero, List.set_cons_succ]
  refine wpAnyH_take (i := 3) (v := ?_) rfl (by kernel_rfl) (by kernel_rfl) (by kernel_rfl) (fun _ _ _ h => h) (Or.inl ⟨by rfl, ?_⟩) (by assumption) ?_
  rotate_left
  · (intro w hSw; (try dsimp only at hSw); simp only [List.getElem_toArray, List.getElem_cons_succ, List.getElem_cons_zero]; go_simp; try with_reducible rfl)
  simp only [Act.put, List.getElem_toArray, List.getElem_cons_succ, List.getElem_cons_zero, List.setIfInBounds_toArray, List.set_cons_zero, List.set_cons_succ]
  refine wpAnyH_take (i := 4) rfl (by kernel_rfl) (by kernel_rfl) (by kernel_rfl) (fun _ _ _ h => h) (yieldsIf_load_mid (by rfl) _ _ rfl _ _ rfl Y _ (fun w hSw => hSw.2.2.1) Tryd.underlying22 rfl iY) (by assumption) ?_
  simp only [Act.put, List.getElem_toArray, List.getElem_cons_succ, List.getElem_cons_zero, List.setIfInBounds_toArray, List.set_cons_zero, List.set_cons_succ]
  refine wpAnyH_take (i := 6) (v := ?_) rfl (by kernel_rfl) (by kernel_rfl) (by kernel_rfl) (fun _ _ _ h => h) (Or.inl ⟨by rfl, ?_⟩) (by assumption) ?_
  rotate_left
  · (intro w hSw; (try dsimp only at hSw); simp only [List.getElem_toArray, List.getElem_cons_succ, List.getElem_cons_zero]; go_simp; try with_reducible rfl)
  simp only [Act.put, List.getElem_toArray, List.getElem_cons_succ, List.getElem_cons_zero, List.setIfInBounds_toArray, List.set_cons_zero, List.set_cons_succ]
  refine wpAnyH_take (i := 7) rfl (by kernel_rfl) (by kernel_rfl) (by kernel_rfl) (fun _ _ _ h => h) (yieldsIf_load_mid (by rfl) _ _ rfl _ _ rfl C _ (fun w hSw => hSw.2.2.2) Tryd.underlying22 rfl iC) (by assumption) ?_
  simp only [Act.put, List.getElem_toArray, List.getElem_cons_succ, List.getElem_cons_zero, List.setIfInBounds_toArray, List.set_cons_zero, List.set_cons_succ]
  refine wpAnyH_take (i := 8) (v := ?_) rfl (by kernel_rfl) (by kernel_rfl) (by kernel_rfl) (fun _ _ _ h => h) (Or.inl ⟨by rfl, ?_⟩) (by assumption) ?_
  rotate_left
  · (intro w hSw; (try dsimp only at hSw); simp only [List.getElem_toArray, List.getElem_cons_succ, List.getElem_cons_zero]; go_simp; try with_reducible rfl)
  simp only [Act.put, List.getElem_toArray, List.getElem_cons_succ, List.getElem_cons_zero, List.setIfInBounds_toArray, List.set_cons_zero, List.set_cons_succ]
  refine wpAnyH_take (i := 9) rfl (by kernel_rfl) (by kernel_rfl) (by kernel_rfl) (fun _ _ _ h => h) (yieldsIf_load_mid (by rfl) _ _ rfl _ _ rfl Y _ (fun w hSw => hSw.2.2.1) Tryd.underlying22 rfl iY) (by assumption) ?_
  simp only [Act.put, List.getElem_toArray, List.getElem_cons_succ, List.getElem_cons_zero, List.setIfInBounds_toArray, List.set_cons_zero, List.set_cons_succ]
  refine wpAnyH_take (i := 11) (v := ?_) rfl (by kernel_rfl) (by kernel_rfl) (by kernel_rfl) (fun _ _ _ h => h) (Or.inl ⟨by rfl, ?_⟩) (by assumption) ?_
  rotate_left
  · (intro w hSw; (try dsimp only at hSw); simp only [List.getElem_toArray, List.getElem_cons_succ, List.getElem_cons_zero]; go_simp; try with_reducible rfl)
  simp only [Act.put, List.getElem_toArray, List.getElem_cons_succ, List.getElem_cons_zero, List.setIfInBounds_toArray, List.set_cons_zero, List.set_cons_succ]
  refine wpAnyH_take (i := 12) (v := ?_) rfl (by kernel_rfl) (by kernel_rfl) (by kernel_rfl) (fun _ _ _ h => h) (Or.inl ⟨by rfl, ?_⟩) (by assumption) ?_
  rotate_left
  · (intro w hSw; (try dsimp only at hSw); simp only [List.getElem_toArray, List.getElem_cons_succ, List.getElem_cons_zero]; go_simp; try with_reducible rfl)
  simp only [Act.put, List.getElem_toArray, List.getElem_cons_succ, List.getElem_cons_zero, List.setIfInBounds_toArray, List.set_cons_zero, List.set_cons_succ]
  refine wpAnyH_take (i := 13) rfl (by kernel_rfl) (by kernel_rfl) (by kernel_rfl) (fun _ _ _ h => h) (yieldsIf_load_mid (by rfl) _ _ rfl _ _ rfl X _ (fun w hSw => hSw.2.1) Tryd.underlying22 rfl iX) (by assumption) ?_
  simp only [Act.put, List.getElem_toArray, List.getElem_cons_succ, List.getElem_cons_zero, List.setIfInBounds_toArray, List.set_cons_zero, List.set_cons_succ]
  refine wpAnyH_take (i := 14) (v := ?_) rfl (by kernel_rfl) (by kernel_rfl) (by kernel_rfl) (fun _ _ _ h => h) (Or.inl ⟨by rfl, ?_⟩) (by assumption) ?_
  rotate_left
  · (intro w hSw; (try dsimp only at hSw); simp only [List.getElem_toArray, List.getElem_cons_succ, List.getElem_cons_zero]; go_simp; try with_reducible rfl)
  simp only [Act.put, List.getElem_toArray, List.getElem_cons_succ, List.getElem_cons_zero, List.setIfInBounds_toArray, List.set_cons_zero, List.set_cons_succ]
  refine wpAnyH_take (i := 15) rfl (by kernel_rfl) (by kernel_rfl) (by kernel_rfl) (fun _ _ _ h => h) (yieldsIf_load_mid (by rfl) _ _ rfl _ _ rfl Y _ (fun w hSw => hSw.2.2.1) Tryd.underlying22 rfl iY) (by assumption) ?_
  simp only [Act.put, List.getElem_toArray, List.getElem_cons_succ, List.getElem_cons_zero, List.setIfInBounds_toArray, List.set_cons_zero, List.set_cons_succ]
  refine wpAnyH_take (i := 17) (v := ?_) rfl (by kernel_rfl) (by kernel_rfl) (by kernel_rfl) (fun _ _ _ h => h) (Or.inl ⟨by rfl, ?_⟩) (by assumption) ?_
  rotate_left
  · (intro w hSw; (try dsimp only at hSw); simp only [List.getElem_toArray, List.getElem_cons_succ, List.getElem_cons_zero]; go_simp; try with_reducible rfl)
  simp only [Act.put, List.getElem_toArray, List.getElem_cons_succ, List.getElem_cons_zero, List.setIfInBounds_toArray, List.set_cons_zero, List.set_cons_succ]
  refine wpAnyH_take (i := 18) rfl (by kernel_rfl) (by kernel_rfl) (by kernel_rfl) (fun _ _ _ h => h) (yieldsIf_load_mid (by rfl) _ _ rfl _ _ rfl C _ (fun w hSw => hSw.2.2.2) Tryd.underlying22 rfl iC) (by assumption) ?_
  simp only [Act.put, List.getElem_toArray, List.getElem_cons_succ, List.getElem_cons_zero, List.setIfInBounds_toArray, List.set_cons_zero, List.set_cons_succ]
  refine wpAnyH_take (i := 19) (v := ?_) rfl (by kernel_rfl) (by kernel_rfl) (by kernel_rfl) (fun _ _ _ h => h) (Or.inl ⟨by rfl, ?_⟩) (by assumption) ?_
  rotate_left
  · (intro w hSw; (try dsimp only at hSw); simp only [List.getElem_toArray, List.getElem_cons_succ, List.getElem_cons_zero]; go_simp; try with_reducible rfl)
  simp only [Act.put, List.getElem_toArray, List.getElem_cons_succ, List.getElem_cons_zero, List.setIfInBounds_toArray, List.set_cons_zero, List.set_cons_succ]
  refine wpAnyH_take (i := 20) rfl (by kernel_rfl) (by kernel_rfl) (by kernel_rfl) (fun _ _ _ h => h) (yieldsIf_load_mid (by rfl) _ _ rfl _ _ rfl Y _ (fun w hSw => hSw.2.2.1) Tryd.underlying22 rfl iY) (by assumption) ?_
  simp only [Act.put, List.getElem_toArray, List.getElem_cons_succ, List.getElem_cons_zero, List.setIfInBounds_toArray, List.set_cons_zero, List.set_cons_succ]
  clear rX rY rC
  refine wpAnyH_inv (k := 4) (fun n L a w' => ∃ b0 b1 b2 b3 m0 m1 m2 m3 : Bool, ∃ v0 v1 v2 v3 r0 r1 r2 r3 : Value, n = left8 b0 b1 b2 b3 m0 m1 m2 m3 ∧ L = #[true, true, true, true, true, b0, true, true, true, true, b1, true, true, true, true, true, b2, true, true, true, true, b3, m0, m1, m2, m3, false, false, false, false] ∧ a = { tmps := #[.agg B, .pointer (some ⟨w.heap.size, 0, none⟩), .bool false, .pointer (some ⟨g, 0, none⟩), .int .i64 (at' : Nat), .pointer (some ⟨p, 0, none⟩), v0, v1, v2, v3, undef, undef, .pointer (some ⟨w.heap.size, 33, none⟩), .int .u8 (y : Nat), .bool false, .pointer (some ⟨g, 0, none⟩), .pointer (some ⟨w.heap.size, 32, none⟩), .int .u8 (t0 : Nat), .int .u8 (at' : Nat), .int .i64 (at' : Nat), .pointer (some ⟨w.heap.size, 0, none⟩), .agg X.toArray, .int .i64 (at' : Nat), .pointer (some ⟨p, at', none⟩), .int .u8 (xa : Nat), .pointer (some ⟨w.heap.size, 33, none⟩), .int .u8 (y : Nat), .int .u8 (ca : Nat), .pointer (some ⟨p, at', none⟩), .pointer (some ⟨g, 0, none⟩), .pointer (some ⟨w.heap.size, 0, none⟩), .agg X.toArray, .pointer (some ⟨w.heap.size, 16, none⟩), .agg Y.toArray, r0, .pointer (some ⟨g, 0, none⟩), .agg C.toArray, .pointer (some ⟨w.heap.size, 16, none⟩), .agg Y.toArray, r1, .pointer (some ⟨g, 0, none⟩), .pointer (some ⟨w.heap.size, 0, none⟩), .agg X.toArray, .pointer (some ⟨w.heap.size, 16, none⟩), .agg Y.toArray, r2, .pointer (some ⟨g, 0, none⟩), .agg C.toArray, .pointer (some ⟨w.heap.size, 16, none⟩), .agg Y.toArray, r3, undef, undef, undef, undef, undef, undef, undef, undef, undef, undef, undef, undef, undef, undef, undef, undef, undef, undef, undef, undef, undef, undef, undef, undef, undef, undef, undef, undef, undef, undef, undef, undef, undef, undef, undef, undef, undef, undef, undef, undef, undef], defers := [] } ∧ Hid (QS W0.heap.size Z (.agg A0.toArray) (.agg A1.toArray) (.agg A2.toArray) (.agg A3.toArray) w' b0 b1 b2 b3 m0 m1 m2 m3 v0 v1 v2 v3 r0 r1 r2 r3)) ?base ?step 8 _ _ _ ?init hHeld
  case init => exact ⟨false, false, false, false, false, false, false, false, _, _, _, _, _, _, _, _, rfl, rfl, rfl, QS.start _ _ _ _ _ _ _ _ _ _ _ _ _ _ _⟩
  case step =>
    rintro n L a w' ⟨b0, b1, b2, b3, m0, m1, m2, m3, v0, v1, v2, v3, r0, r1, r2, r3, hn, rfl, rfl, HQ⟩ hS
    constructor
    · intro h0
      have no : ∀ i, i ∈ Region.ready _ _ _ → False := fun i hi => by rw [h0] at hi; cases hi
      cases b0 with
      | false => exact no 5 (mem_ready.2 ⟨rfl, _, rfl, by intro e he _; simp at he; rcases he with rfl | rfl | rfl <;> rfl⟩)
      | true =>
      cases b1 with
      | false => exact no 10 (mem_ready.2 ⟨rfl, _, rfl, by intro e he _; simp at he; rcases he with rfl | rfl | rfl | rfl <;> rfl⟩)
      | true =>
      cases b2 with
      | false => exact no 16 (mem_ready.2 ⟨rfl, _, rfl, by intro e he _; simp at he; rcases he with rfl | rfl | rfl | rfl <;> rfl⟩)
      | true =>
      cases b3 with
      | false => exact no 21 (mem_ready.2 ⟨rfl, _, rfl, by intro e he _; simp at he; rcases he with rfl | rfl | rfl | rfl <;> rfl⟩)
      | true =>
      cases m0 with
      | false => exact no 22 (mem_ready.2 ⟨rfl, _, rfl, by intro e he _; simp at he⟩)
      | true =>
      cases m1 with
      | false => exact no 23 (mem_ready.2 ⟨rfl, _, rfl, by intro e he _; simp at he⟩)
      | true =>
      cases m2 with
      | false => exact no 24 (mem_ready.2 ⟨rfl, _, rfl, by intro e he _; simp at he⟩)
      | true =>
      cases m3 with
      | false => exact no 25 (mem_ready.2 ⟨rfl, _, rfl, by intro e he _; simp at he⟩)
      | true =>
      simp [left8] at hn
    · intro i hi
      obtain ⟨h1, o, ho, hd⟩ := mem_ready.1 hi
      have hlt : i < 30 := (Array.getElem?_eq_some_iff.1 ho).1
      obtain rfl | rfl | rfl | rfl | rfl | rfl | rfl | rfl | rfl | rfl | rfl | rfl | rfl | rfl | rfl | rfl | rfl | rfl | rfl | rfl | rfl | rfl | rfl | rfl | rfl | rfl | rfl | rfl | rfl | rfl : i = 0 ∨ i = 1 ∨ i = 2 ∨ i = 3 ∨ i = 4 ∨ i = 5 ∨ i = 6 ∨ i = 7 ∨ i = 8 ∨ i = 9 ∨ i = 10 ∨ i = 11 ∨ i = 12 ∨ i = 13 ∨ i = 14 ∨ i = 15 ∨ i = 16 ∨ i = 17 ∨ i = 18 ∨ i = 19 ∨ i = 20 ∨ i = 21 ∨ i = 22 ∨ i = 23 ∨ i = 24 ∨ i = 25 ∨ i = 26 ∨ i = 27 ∨ i = 28 ∨ i = 29 := by omega
      · exact absurd (show true = false from h1) (by decide)
      · exact absurd (show true = false from h1) (by decide)
      · exact absurd (show true = false from h1) (by decide)
      · exact absurd (show true = false from h1) (by decide)
      · exact absurd (show true = false from h1) (by decide)
      · obtain rfl : b0 = false := h1
        refine wpOp_step rfl (fun K hK => ?_)
        rw [if_pos (by rfl)]
        go_simp
        refine (c0.out _ hS.1).mono ?_
        rintro e x ⟨rfl, bb⟩
        go_wp2_with fail
        exact ⟨keptl hS bb, true, b1, b2, b3, m0, m1, m2, m3, _, _, _, _, _, _, _, _, by simp [left8] at hn ⊢; omega, rfl, rfl, QS.call0 HQ.out bb⟩
      · exact absurd (show true = false from h1) (by decide)
      · exact absurd (show true = false from h1) (by decide)
      · exact absurd (show true = false from h1) (by decide)
      · exact absurd (show true = false from h1) (by decide)
      · obtain rfl : b1 = false := h1
        obtain rfl := (Option.some.inj (ho.symm.trans rfl) : o = _)
        have hp : b0 = true := hd { on := 5, ground := .chain } (by simp) rfl
        refine wpOp_step rfl (fun K hK => ?_)
        rw [if_pos (by rfl)]
        go_simp
        refine (c1.out _ hS.1).mono ?_
        rintro e x ⟨rfl, bb⟩
        go_wp2_with fail
        exact ⟨keptl hS bb, b0, true, b2, b3, m0, m1, m2, m3, _, _, _, _, _, _, _, _, by simp [left8] at hn ⊢; omega, rfl, rfl, QS.call1 HQ.out bb hp⟩
      · exact absurd (show true = false from h1) (by decide)
      · exact absurd (show true = false from h1) (by decide)
      · exact absurd (show true = false from h1) (by decide)
      · exact absurd (show true = false from h1) (by decide)
      · exact absurd (show true = false from h1) (by decide)
      · obtain rfl : b2 = false := h1
        obtain rfl := (Option.some.inj (ho.symm.trans rfl) : o = _)
        have hp : b1 = true := hd { on := 10, ground := .chain } (by simp) rfl
        refine wpOp_step rfl (fun K hK => ?_)
        rw [if_pos (by rfl)]
        go_simp
        refine (c2.out _ hS.1).mono ?_
        rintro e x ⟨rfl, bb⟩
        go_wp2_with fail
        exact ⟨keptl hS bb, b0, b1, true, b3, m0, m1, m2, m3, _, _, _, _, _, _, _, _, by simp [left8] at hn ⊢; omega, rfl, rfl, QS.call2 HQ.out bb hp⟩
      · exact absurd (show true = false from h1) (by decide)
      · exact absurd (show true = false from h1) (by decide)
      · exact absurd (show true = false from h1) (by decide)
      · exact absurd (show true = false from h1) (by decide)
      · obtain rfl : b3 = false := h1
        obtain rfl := (Option.some.inj (ho.symm.trans rfl) : o = _)
        have hp : b2 = true := hd { on := 16, ground := .chain } (by simp) rfl
        refine wpOp_step rfl (fun K hK => ?_)
        rw [if_pos (by rfl)]
        go_simp
        refine (c3.out _ hS.1).mono ?_
        rintro e x ⟨rfl, bb⟩
        go_wp2_with fail
        exact ⟨keptl hS bb, b0, b1, b2, true, m0, m1, m2, m3, _, _, _, _, _, _, _, _, by simp [left8] at hn ⊢; omega, rfl, rfl, QS.call3 HQ.out bb hp⟩
      · obtain rfl : m0 = false := h1
        refine wpOp_step rfl (fun K hK => ?_)
        rw [if_pos (by rfl)]
        go_simp
        have bb := below_alloc (Below.refl w'.heap.size w') (.cells Z.toArray 22)
        refine hK _ _ ⟨keptl hS bb, b0, b1, b2, b3, true, m1, m2, m3, _, _, _, _, _, _, _, _, by simp [left8] at hn ⊢; omega, rfl, rfl, QS.alloc0 HQ.out hS.1.size⟩
      · obtain rfl : m1 = false := h1
        refine wpOp_step rfl (fun K hK => ?_)
        rw [if_pos (by rfl)]
        go_simp
        have bb := below_alloc (Below.refl w'.heap.size w') (.cells Z.toArray 22)
        refine hK _ _ ⟨keptl hS bb, b0, b1, b2, b3, m0, true, m2, m3, _, _, _, _, _, _, _, _, by simp [left8] at hn ⊢; omega, rfl, rfl, QS.alloc1 HQ.out hS.1.size⟩
      · obtain rfl : m2 = false := h1
        refine wpOp_step rfl (fun K hK => ?_)
        rw [if_pos (by rfl)]
        go_simp
        have bb := below_alloc (Below.refl w'.heap.size w') (.cells Z.toArray 22)
        refine hK _ _ ⟨keptl hS bb, b0, b1, b2, b3, m0, m1, true, m3, _, _, _, _, _, _, _, _, by simp [left8] at hn ⊢; omega, rfl, rfl, QS.alloc2 HQ.out hS.1.size⟩
      · obtain rfl : m3 = false := h1
        refine wpOp_step rfl (fun K hK => ?_)
        rw [if_pos (by rfl)]
        go_simp
        have bb := below_alloc (Below.refl w'.heap.size w') (.cells Z.toArray 22)
        refine hK _ _ ⟨keptl hS bb, b0, b1, b2, b3, m0, m1, m2, true, _, _, _, _, _, _, _, _, by simp [left8] at hn ⊢; omega, rfl, rfl, QS.alloc3 HQ.out hS.1.size⟩
      · obtain rfl := (Option.some.inj (ho.symm.trans rfl) : o = _)
        exfalso
        have hb3 : b3 = true := hd { on := 21, ground := .chain } (by simp) rfl
        have hm0 : m0 = true := hd { on := 22, ground := .phase } (by simp) rfl
        have hm1 : m1 = true := hd { on := 23, ground := .phase } (by simp) rfl
        have hm2 : m2 = true := hd { on := 24, ground := .phase } (by simp) rfl
        have hm3 : m3 = true := hd { on := 25, ground := .phase } (by simp) rfl
        have hb2 := HQ.out.1.2.2 hb3
        have hb1 := HQ.out.1.2.1 hb2
        have hb0 := HQ.out.1.1 hb1
        simp [left8, hb0, hb1, hb2, hb3, hm0, hm1, hm2, hm3] at hn
      · obtain rfl := (Option.some.inj (ho.symm.trans rfl) : o = _)
        exfalso
        exact absurd (show false = true from hd { on := 26, ground := .chain } (by simp) rfl) (by decide)
      · obtain rfl := (Option.some.inj (ho.symm.trans rfl) : o = _)
        exfalso
        exact absurd (show false = true from hd { on := 27, ground := .chain } (by simp) rfl) (by decide)
      · obtain rfl := (Option.some.inj (ho.symm.trans rfl) : o = _)
        exfalso
        exact absurd (show false = true from hd { on := 28, ground := .chain } (by simp) rfl) (by decide)
  case base =>
    rintro L a w' ⟨b0, b1, b2, b3, m0, m1, m2, m3, v0, v1, v2, v3, r0, r1, r2, r3, hn, rfl, rfl, HQ⟩ hHeld
    obtain ⟨rfl, rfl, rfl, rfl, rfl, rfl, rfl, rfl⟩ := left8_zero hn
    obtain ⟨p0, p1, p2, p3, rfl, rfl, rfl, rfl, rfl, rfl, rfl, rfl, ⟨l0, l1, l2, l3⟩, ⟨n01, n02, n03, n12, n13, n23⟩, g0, g1, g2, g3⟩ := HQ.out.all
    obtain ⟨h1, h2, h3, q0, q1, q2, q3⟩ := four_rows w' p0 p1 p2 p3 Z.toArray A0.toArray A1.toArray A2.toArray A3.toArray 22 n01 n02 n03 n12 n13 n23 g0 g1 g2 g3
    refine wpAnyH_ready (rs := [26]) (by kernel_rfl) (by simp) ?_
    refine AllReadyH.cons rfl (fun K hK => ?_) AllReadyH.nil
    rw [if_pos (by rfl)]
    refine wp_store_row 22 _ _ rfl p0 A0.toArray rfl rfl 22 Z.toArray g0 (by rw [sA0]; rfl) (by rw [sZ, sA0]) oA0.out (hK.out _ _ (keptls hHeld p0 l0 A0.toArray LX LP) (fun hHeld => ?_))
    clear hK K
    try simp only [Act.put, List.setIfInBounds_toArray, List.set_cons_zero, List.set_cons_succ]
    refine wpAnyH_ready (rs := [27]) (by kernel_rfl) (by simp) ?_
    refine AllReadyH.cons rfl (fun K hK => ?_) AllReadyH.nil
    rw [if_pos (by rfl)]
    refine wp_store_row 22 _ _ rfl p1 A1.toArray rfl rfl 22 Z.toArray h1 (by rw [sA1]; rfl) (by rw [sZ, sA1]) oA1.out (hK.out _ _ (keptls hHeld p1 l1 A1.toArray LX LP) (fun hHeld => ?_))
    clear hK K
    try simp only [Act.put, List.setIfInBounds_toArray, List.set_cons_zero, List.set_cons_succ]
    refine wpAnyH_ready (rs := [28]) (by kernel_rfl) (by simp) ?_
    refine AllReadyH.cons rfl (fun K hK => ?_) AllReadyH.nil
    rw [if_pos (by rfl)]
    refine wp_store_row 22 _ _ rfl p2 A2.toArray rfl rfl 22 Z.toArray h2 (by rw [sA2]; rfl) (by rw [sZ, sA2]) oA2.out (hK.out _ _ (keptls hHeld p2 l2 A2.toArray LX LP) (fun hHeld => ?_))
    clear hK K
    try simp only [Act.put, List.setIfInBounds_toArray, List.set_cons_zero, List.set_cons_succ]
    refine wpAnyH_ready (rs := [29]) (by kernel_rfl) (by simp) ?_
    refine AllReadyH.cons rfl (fun K hK => ?_) AllReadyH.nil
    rw [if_pos (by rfl)]
    refine wp_store_row 22 _ _ rfl p3 A3.toArray rfl rfl 22 Z.toArray h3 (by rw [sA3]; rfl) (by rw [sZ, sA3]) oA3.out (hK.out _ _ (keptls hHeld p3 l3 A3.toArray LX LP) (fun hHeld => ?_))
    clear hK K
    try simp only [Act.put, List.setIfInBounds_toArray, List.set_cons_zero, List.set_cons_succ]
    refine wpAnyH_done (by kernel_rfl) ?_ _
    have Q0 := hide q0
    have Q1 := hide q1
    have Q2 := hide q2
    have Q3 := hide q3
    obtain ⟨W4, hW4⟩ : ∃ W4, W4 = (((w'.setRow p0 A0.toArray).setRow p1 A1.toArray).setRow p2 A2.toArray).setRow p3 A3.toArray := ⟨_, rfl⟩
    rw [← hW4] at Q0 Q1 Q2 Q3 hHeld ⊢
    have HH := hide hHeld
    clear q0 q1 q2 q3 h1 h2 h3 g0 g1 g2 g3 HQ hn hW4 hHeld l0 l1 l2 l3 n01 n02 n03 n12 n13 n23
    clear hz
    go_wp2_with fail
    rw [show (((at' : Int) / 4 + 4 - (at' : Int) % 4) % 4) = (col : Int) by omega]
    go_loopw [11] (fun j wr => ∃ i : Nat, i ≤ 16 ∧ j = .int .i64 i ∧ Hid (Below W4.heap.size W4 wr)) (fun i _ => 16 - (intOf i).toNat)
    case atStart => exact ⟨0, by omega, rfl, Below.refl _ _⟩
    case round =>
      obtain ⟨i, hi, rfl, HR⟩ := hrel
      by_cases hlt : i < 16
      · have cell : ∀ {p : Nat} {C : List Value} {z : Nat → Nat}, W4.heap[p]? = some (.cells C.toArray 22 (0, 0)) → (∀ i, i < 16 → C[i]? = some (.int .u8 (z i : Nat))) → wr.cell? ⟨p, i, none⟩ = some (.int .u8 (z i : Nat)) := fun {p C z} h h' => by
          refine Go.Proofs.YtejhnpgolpjleaaDoor.later HR.out ?_
          rw [cell_of_row W4 p _ _ _ _ h]; simpa using h' i hlt
        have e0 := cell Q0.out g0.out
        have e1 := cell Q1.out g1.out
        have e2 := cell Q2.out g2.out
        have e3 := cell Q3.out g3.out
        obtain ⟨x1', x2'⟩ := hx.out i hlt
        generalize x0 i = a0 at e0 x1'
        generalize x1 i = a1 at e1 x1'
        generalize x2 i = a2 at e2 x2'
        generalize x3 i = a3 at e3 x2'
        obtain ⟨r, er⟩ : ∃ r, r = at' % 4 := ⟨_, rfl⟩
        obtain ⟨d, ed⟩ : ∃ d, d = 4 * col := ⟨_, rfl⟩
        obtain ⟨q, eq⟩ : ∃ q, q = d + r := ⟨_, rfl⟩
        obtain ⟨k, ek⟩ : ∃ k, k = i / 4 := ⟨_, rfl⟩
        rw [← er, ← ed, ← eq] at x2'
        rw [← ek] at x1'
        have hc4 : col < 4 := by omega
        have w1 : (at' : Int).tmod 4 = (r : Int) := by rw [er]; rfl
        have w1' : (at' : Int) % 4 = (r : Int) := by omega
        have w2 : IntKind.i64.wrap (4 * (col : Int)) = (d : Int) := by rw [IntKind.wrap_i64]; omega
        have w3 : IntKind.i64.wrap ((d : Int) + (r : Int)) = (q : Int) := by rw [IntKind.wrap_i64]; omega
        have w4 : IntKind.i64.wrap ((i : Int) / 4) = (k : Int) := by rw [IntKind.wrap_i64]; omega
        have w5 : (i : Int) / 4 = (k : Int) := by omega
        have bn : ∀ (m n : Nat) (p : Prop) [Decidable p], (m ≠ n ↔ p) → ((m : Int) != (n : Int)) = decide p := fun m n p _ h => by
          by_cases hp : p
          · rw [decide_eq_true hp, bne_iff_ne]; have := h.2 hp; omega
          · rw [decide_eq_false hp]
            have h2 : m = n := Decidable.byContradiction fun h' => hp (h.1 h')
            rw [h2]; simp
        have be : ∀ (m n : Nat), ((m : Int) == (n : Int)) = decide (m = n) := fun m n => by
          by_cases h : m = n
          · rw [decide_eq_true h, h]; simp
          · rw [decide_eq_false h, beq_eq_false_iff_ne]; omega
        have d1 := bn a0 a1 _ x1'
        have d2 := be k col
        have d3 := bn a2 a3 _ x2'
        have d4 := be i q
        generalize decide (k = col) = f1 at d1 d2
        generalize decide (i = q) = f2 at d3 d4
        have i1 : (i : Int) < 16 := by omega
        clear x1' x2' cell bn be er ed eq ek hcol hc4
        cases f1 <;> cases f2
        all_goals (
          go_wp2_with fail
          go_quiet (fail)
          go_wp2
          go_roundw
          case rel => exact ⟨i + 1, by omega, by go_num, below_drewN HR.out _⟩
          case measure => simp [intOf]; omega)
      · obtain rfl : i = 16 := by omega
        go_wp2_with fail
        refine (cA.out _ (below_two (below_two BW0.out HH.out.1) HR.out)).mono ?_
        rintro e x9 ⟨rfl, b9⟩
        go_wp2
        go_ret
        exact ⟨rfl, below_two (below_two (below_two BW0.out HH.out.1) HR.out) b9⟩
end Go.Proofs.YtejhnpgolpjleaaDoor
