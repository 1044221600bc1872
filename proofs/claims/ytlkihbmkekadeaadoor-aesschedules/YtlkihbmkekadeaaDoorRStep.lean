/- Own: the contracts of the reference's steps of a round (no statement is proved here). -/
import Derived.Test.YtlkihbmkekadeaaDoorOT1
namespace Go.Proofs.YtlkihbmkekadeaaDoor
open Go.ChangeShapes Go.WideShapes Go.ChangeAt Go.RowKit
set_option maxRecDepth 20000

theorem three_new (w : World) (X Y Z : Array Value) (s t u : TypeId) : Below w.heap.size w (((w.alloc (.cells X s)).alloc (.cells Y t)).alloc (.cells Z u)) ∧ (((w.alloc (.cells X s)).alloc (.cells Y t)).alloc (.cells Z u)).heap[w.heap.size]? = some (.cells X s (0, 0)) ∧ (((w.alloc (.cells X s)).alloc (.cells Y t)).alloc (.cells Z u)).heap[w.heap.size + 1]? = some (.cells Y t (0, 0)) ∧ (((w.alloc (.cells X s)).alloc (.cells Y t)).alloc (.cells Z u)).heap[w.heap.size + 1 + 1]? = some (.cells Z u (0, 0)) := by
  have l : ∀ {w : World} {g : Nat} {x : Obj} (o : Obj), w.heap[g]? = some x → (w.alloc o).heap[g]? = some x := fun {w g x} o e =>
    (((Below.refl w.heap.size w).alloc (Nat.le_refl _) o).block g (Array.getElem?_eq_some_iff.1 e).1).trans e
  have s' : ∀ (w : World) (o : Obj), (w.alloc o).heap.size = w.heap.size + 1 := fun w o => by simp
  refine ⟨below_alloc (below_alloc (below_alloc (Below.refl _ _) _) _) _, l _ (l _ (heap_alloc_new _ _)), l _ (heap_alloc2_new _ _ _), ?_⟩
  rw [← s' w (.cells X s), ← s' _ (.cells Y t)]; exact heap_alloc_new _ _
set_option linter.unusedSimpArgs false in
set_option maxRecDepth 100000 in
set_option maxHeartbeats 4000000 in
theorem sixteen_core (f k R : Nat → Nat) (w : World) (hx : Hid (∀ i, bits .xor .u8 (f i : Nat) (k i : Nat) = ((R i : Nat) : Int))) :
    Calls Tryd.prog 47 #[.agg (bc 16 f).toArray, .agg (bc 16 k).toArray] w fun e w' => e = .returned (.agg (bc 16 R).toArray) ∧ Below w.heap.size w w' := by
  obtain ⟨X, hX⟩ : ∃ X, X = bc 16 f := ⟨_, rfl⟩
  obtain ⟨Y, hY⟩ : ∃ Y, Y = bc 16 k := ⟨_, rfl⟩
  obtain ⟨Z, hZ⟩ : ∃ Z, Z = bc 16 (fun _ => 0) := ⟨_, rfl⟩
  have hz := zero16
  rw [← hX, ← hY]
  rw [← hZ] at hz
  have HX := hide hX
  have HY := hide hY
  have HZ := hide hZ
  clear hX hY hZ
  go_enter Tryd.func47, Tryd.ntmps47
  go_wp2
  clear hz
  go_loopw [6] (fun j wr => ∃ i : Nat, i ≤ 16 ∧ j = .int .i64 i ∧ Hid (Four w X Y Z (bc 16 (upto i R)) wr)) (fun i _ => 16 - (intOf i).toNat)
  case atStart =>
    refine ⟨0, by omega, rfl, ?_⟩
    rw [upto_zero, ← HZ.out]
    exact Four.start w X Y Z Z
  case round =>
    obtain ⟨i, hi, rfl, HR⟩ := hrel
    by_cases hlt : i < 16
    · obtain ⟨x, ex⟩ : ∃ x, x = f i := ⟨_, rfl⟩
      obtain ⟨y, ey⟩ : ∃ y, y = k i := ⟨_, rfl⟩
      have e1 : wr.cell? ⟨w.heap.size, i, none⟩ = some (.int .u8 (x : Nat)) := by
        have := row_cell (by rw [← HX.out]; exact HR.out.2.1) i hlt
        rw [ex]; exact this
      have e2 : wr.cell? ⟨w.heap.size + 1, i, none⟩ = some (.int .u8 (y : Nat)) := by
        have := row_cell (by rw [← HY.out]; exact HR.out.2.2.1) i hlt
        rw [ey]; exact this
      obtain ⟨o, e3, e4⟩ := HR.out.cell i (by rw [bc_len]; omega)
      have HE : Hid (bits .xor .u8 (x : Int) (y : Int) = ((R i : Nat) : Int)) := by rw [ex, ey]; exact hx.out i
      have i1 : (i : Int) < 16 := by omega
      clear ex ey
      go_wp2_with fail
      refine wp_region_held_drew (S := fun w' => w'.cell? ⟨w.heap.size, i, none⟩ = some (.int .u8 (x : Nat)) ∧ w'.cell? ⟨w.heap.size + 1, i, none⟩ = some (.int .u8 (y : Nat))) (by kernel_rfl) ?_ (fun hHeld => ?_)
      · exact ⟨e1, e2⟩
      refine wpAnyH_take (i := 0) (v := ?_) rfl (by kernel_rfl) (by kernel_rfl) (by kernel_rfl) (fun _ _ _ h => h) (Or.inl ⟨by rfl, ?_⟩) (by assumption) ?_
      rotate_left
      · (intro w hSw; (try dsimp only at hSw); simp only [List.getElem_toArray, List.getElem_cons_zero]; go_simp; try with_reducible rfl)
      simp only [Act.put, List.getElem_toArray, List.getElem_cons_zero, List.setIfInBounds_toArray, List.set_cons_zero, List.set_cons_succ]
      refine wpAnyH_take (i := 1) (v := ?_) rfl (by kernel_rfl) (by kernel_rfl) (by kernel_rfl) (fun _ _ _ h => h) (Or.inl ⟨by rfl, ?_⟩) (by assumption) ?_
      rotate_left
      · (intro w hSw; (try dsimp only at hSw); simp only [List.getElem_toArray, List.getElem_cons_succ, List.getElem_cons_zero]; go_simp; try with_reducible rfl)
      simp only [Act.put, List.getElem_toArray, List.getElem_cons_succ, List.getElem_cons_zero, List.setIfInBounds_toArray, List.set_cons_zero, List.set_cons_succ]
      refine wpAnyH_take (i := 2) (v := ?_) rfl (by kernel_rfl) (by kernel_rfl) (by kernel_rfl) (fun _ _ _ h => h) (Or.inl ⟨by rfl, ?_⟩) (by assumption) ?_
      rotate_left
      · (intro w hSw; (try dsimp only at hSw); simp only [List.getElem_toArray, List.getElem_cons_succ, List.getElem_cons_zero]; go_simp; try with_reducible rfl)
      simp only [Act.put, List.getElem_toArray, List.getElem_cons_succ, List.getElem_cons_zero, List.setIfInBounds_toArray, List.set_cons_zero, List.set_cons_succ]
      refine wpAnyH_take (i := 3) (v := ?_) rfl (by kernel_rfl) (by kernel_rfl) (by kernel_rfl) (fun _ _ _ h => h) (Or.inl ⟨by rfl, ?_⟩) (by assumption) ?_
      rotate_left
      · (intro w hSw; (try dsimp only at hSw); simp only [List.getElem_toArray, List.getElem_cons_succ, List.getElem_cons_zero]; go_simp; try with_reducible rfl)
      simp only [Act.put, List.getElem_toArray, List.getElem_cons_succ, List.getElem_cons_zero, List.setIfInBounds_toArray, List.set_cons_zero, List.set_cons_succ]
      refine wpAnyH_take (i := 4) (v := ?_) rfl (by kernel_rfl) (by kernel_rfl) (by kernel_rfl) (fun _ _ _ h => h) (Or.inl ⟨by rfl, ?_⟩) (by assumption) ?_
      rotate_left
      · (intro w hSw; (try dsimp only at hSw); simp only [List.getElem_toArray, List.getElem_cons_succ, List.getElem_cons_zero]; go_simp; try with_reducible rfl)
      simp only [Act.put, List.getElem_toArray, List.getElem_cons_succ, List.getElem_cons_zero, List.setIfInBounds_toArray, List.set_cons_zero, List.set_cons_succ]
      refine wpAnyH_take (i := 5) (v := ?_) rfl (by kernel_rfl) (by kernel_rfl) (by kernel_rfl) (fun _ _ _ h => h) (Or.inl ⟨by rfl, ?_⟩) (by assumption) ?_
      rotate_left
      · (intro w hSw; (try dsimp only at hSw); simp only [List.getElem_toArray, List.getElem_cons_succ, List.getElem_cons_zero]; go_simp; try with_reducible rfl)
      simp only [Act.put, List.getElem_toArray, List.getElem_cons_succ, List.getElem_cons_zero, List.setIfInBounds_toArray, List.set_cons_zero, List.set_cons_succ]
      refine wpAnyH_take (i := 6) (v := ?_) rfl (by kernel_rfl) (by kernel_rfl) (by kernel_rfl) (fun _ _ _ h => h) (Or.inl ⟨by rfl, ?_⟩) (by assumption) ?_
      rotate_left
      · (intro w hSw; (try dsimp only at hSw); simp only [List.getElem_toArray, List.getElem_cons_succ, List.getElem_cons_zero]; go_simp; try with_reducible rfl)
      simp only [Act.put, List.getElem_toArray, List.getElem_cons_succ, List.getElem_cons_zero, List.setIfInBounds_toArray, List.set_cons_zero, List.set_cons_succ]
      refine wpAnyH_take (i := 7) (v := ?_) rfl (by kernel_rfl) (by kernel_rfl) (by kernel_rfl) (fun _ _ _ h => h) (Or.inl ⟨by rfl, ?_⟩) (by assumption) ?_
      rotate_left
      · (intro w hSw; (try dsimp only at hSw); simp only [List.getElem_toArray, List.getElem_cons_succ, List.getElem_cons_zero]; go_simp; try with_reducible rfl)
      simp only [Act.put, List.getElem_toArray, List.getElem_cons_succ, List.getElem_cons_zero, List.setIfInBounds_toArray, List.set_cons_zero, List.set_cons_succ]
      refine wpAnyH_take (i := 8) (v := ?_) rfl (by kernel_rfl) (by kernel_rfl) (by kernel_rfl) (fun _ _ _ h => h) (Or.inl ⟨by rfl, ?_⟩) (by assumption) ?_
      rotate_left
      · (intro w hSw; (try dsimp only at hSw); simp only [List.getElem_toArray, List.getElem_cons_succ, List.getElem_cons_zero]; go_simp; try with_reducible rfl)
      simp only [Act.put, List.getElem_toArray, List.getElem_cons_succ, List.getElem_cons_zero, List.setIfInBounds_toArray, List.set_cons_zero, List.set_cons_succ]
      refine wpAnyH_ready (rs := [9]) (by kernel_rfl) (by simp) ?_
      refine AllReadyH.cons rfl (fun K hK => ?_) AllReadyH.nil
      simp only [List.getElem_toArray, List.getElem_cons_succ, List.getElem_cons_zero]
      go_simp
      refine hK.out _ _ ?_ (fun hHeld => ?_)
      · exact ⟨far hHeld.1 (by show w.heap.size ≠ w.heap.size + 3; omega), far hHeld.2 (by simp)⟩
      clear hK K
      try simp only [Act.put, List.setIfInBounds_toArray, List.set_cons_zero, List.set_cons_succ]
      refine wpAnyH_done (by kernel_rfl) ?_ _
      go_wp2
      go_roundw
      case rel =>
        refine ⟨i + 1, by omega, by go_num, ?_⟩
        have h1 := (HR.out.set i (.int .u8 (R i : Nat))).drew
        rw [upto_set] at h1
        rw [HE.out]
        exact h1
      case measure => simp [intOf]; omega
    · obtain rfl : i = 16 := by omega
      have RV : Hid (wr.heap[w.heap.size + 1 + 1 + 1]? = some (.cells (bc 16 R).toArray 31 (0, 0))) := by
        have := HR.out.2.2.2.2
        rw [upto_all] at this
        exact this
      have R1 : Hid (wr.heap[w.heap.size + 1 + 1]? = some (.cells Z.toArray 31 (0, 0))) := HR.out.2.2.2.1
      have HB := hide HR.out.1
      clear HR hlt hi
      obtain ⟨V, hV⟩ : ∃ V, V = (bc 16 R).toArray := ⟨_, rfl⟩
      have hVl : V.size = 16 := by rw [hV, List.size_toArray, bc_len]
      have hV1 : Hid (V.all (·.oneCell') = true) := by rw [hV]; exact bc_one _ _
      have HV := hide hV
      have R2 : Hid (wr.heap[w.heap.size + 1 + 1 + 1]? = some (.cells V 31 (0, 0))) := by rw [hV]; exact RV.out
      have hZl : Z.toArray.size = 16 := by rw [HZ.out, List.size_toArray, bc_len]
      clear hV
      go_wp2_with (first
        | (refine wpList_load_row rfl 31 _ rfl (w.heap.size + 1 + 1 + 1) rfl 31 V (0, 0) _ R2.out Tryd.underlying31 rfl (by rw [hVl]; rfl) ?_)
        | (refine wpList_store_row rfl 31 _ _ rfl (w.heap.size + 1 + 1) V rfl rfl 31 Z.toArray R1.out (by rw [hVl]; rfl) (by rw [hZl, hVl]) hV1.out ?_))
      refine bodyPost_ret (v := .agg V) (results_cell_row rfl _ _ (w.heap.size + 1 + 1) 31 V (0, 0) _ rfl (setRow_heap _ _ _ _ _ _ R1.out) Tryd.underlying31 rfl (by rw [hVl]; rfl)) rfl ⟨by rw [HV.out], ?_⟩
      exact below_setRow HB.out (by omega) _
set_option linter.unusedSimpArgs false in
set_option maxRecDepth 100000 in
set_option maxHeartbeats 4000000 in
theorem sub_core (T : List Value) (f R : Nat → Nat) (t : Nat → Nat) (w : World) (hT : T.length = 256) (hf : Hid (∀ i, f i < 256)) (ht : Hid (∀ a, a < 256 → T[a]? = some (.int .u8 (t a : Nat)))) (hR : Hid (∀ i, R i = t (f i))) :
    Calls Tryd.prog 69 #[.agg T.toArray, .agg (bc 16 f).toArray] w fun e w' => e = .returned (.agg (bc 16 R).toArray) ∧ Below w.heap.size w w' := by
  obtain ⟨X, hX⟩ : ∃ X, X = bc 16 f := ⟨_, rfl⟩
  obtain ⟨Z, hZ⟩ : ∃ Z, Z = bc 16 (fun _ => 0) := ⟨_, rfl⟩
  have hz := zero16
  rw [← hX]
  rw [← hZ] at hz
  have HX := hide hX
  have HZ := hide hZ
  have HTl := hide hT
  clear hX hZ hT
  go_enter Tryd.func69, Tryd.ntmps69
  go_wp2
  clear hz
  go_loopw [5] (fun j wr => ∃ i : Nat, i ≤ 16 ∧ j = .int .i64 i ∧ Hid (Below w.heap.size w wr ∧ wr.heap[w.heap.size]? = some (.cells T.toArray 36 (0, 0)) ∧ wr.heap[w.heap.size + 1]? = some (.cells (bc 16 fun j => if j < i then R j else f j).toArray 31 (0, 0)) ∧ wr.heap[w.heap.size + 1 + 1]? = some (.cells Z.toArray 31 (0, 0)))) (fun i _ => 16 - (intOf i).toNat)
  case atStart =>
    have h := three_new w T.toArray X.toArray Z.toArray 36 31 31
    refine ⟨0, by omega, rfl, h.1, h.2.1, ?_, h.2.2.2⟩
    rw [show (fun j => if j < 0 then R j else f j) = f from funext fun j => if_neg (by omega), ← HX.out]
    exact h.2.2.1
  case round =>
    obtain ⟨i, hi, rfl, HR⟩ := hrel
    by_cases hlt : i < 16
    · obtain ⟨x, ex⟩ : ∃ x, x = f i := ⟨_, rfl⟩
      have hx256 : x < 256 := by rw [ex]; exact hf.out i
      obtain ⟨y, ey⟩ : ∃ y, y = t x := ⟨_, rfl⟩
      have e1 : wr.cell? ⟨w.heap.size + 1, i, none⟩ = some (.int .u8 (x : Nat)) := by
        have := row_cell HR.out.2.2.1 i hlt
        rw [if_neg (by omega)] at this
        rw [ex]; exact this
      have e2 : wr.cell? ⟨w.heap.size, x, none⟩ = some (.int .u8 (y : Nat)) := by
        rw [cell_of_row wr _ _ _ _ _ HR.out.2.1, ey]; simpa using ht.out x hx256
      have e4 : wr.frozen? ⟨w.heap.size + 1, i, none⟩ = false := frozen_of_row wr _ _ _ _ HR.out.2.2.1
      have HE : Hid (y = R i) := by
        show y = R i
        rw [ey, ex, hR.out]
      have i1 : (i : Int) < 16 := by omega
      have i2 : (x : Int) < 256 := by omega
      clear ex ey
      go_wp2
      go_roundw
      case rel =>
        obtain ⟨hb, h1, h2, h3⟩ := HR.out
        refine ⟨i + 1, by omega, by go_num, hb.setCell (by show w.heap.size ≤ w.heap.size + 1; omega) _, ?_, ?_, ?_⟩
        · rw [heap_setCell_other _ _ _ _ (by simp)]; exact h1
        · rw [heap_setCell_same _ _ _ _ _ _ h2, List.setIfInBounds_toArray, HE.out, bc_set]
          congr 3
          refine bc_congr fun j _ => ?_
          by_cases e : j = i
          · subst e; rw [if_pos rfl, if_pos (by omega)]
          · rw [if_neg e]
            by_cases h : j < i
            · rw [if_pos h, if_pos (by omega)]
            · rw [if_neg h, if_neg (by omega)]
        · rw [heap_setCell_other _ _ _ _ (by simp)]; exact h3
      case measure => simp [intOf]; omega
    · obtain rfl : i = 16 := by omega
      have RV : Hid (wr.heap[w.heap.size + 1]? = some (.cells (bc 16 R).toArray 31 (0, 0))) := by
        have := HR.out.2.2.1
        rw [bc_congr (g := R) fun j hj => if_pos hj] at this
        exact this
      have R1 := hide HR.out.2.2.2
      have HB := hide HR.out.1
      clear HR hlt hi
      obtain ⟨V, hV⟩ : ∃ V, V = (bc 16 R).toArray := ⟨_, rfl⟩
      have hVl : V.size = 16 := by rw [hV, List.size_toArray, bc_len]
      have hV1 : Hid (V.all (·.oneCell') = true) := by rw [hV]; exact bc_one _ _
      have HV := hide hV
      have R2 : Hid (wr.heap[w.heap.size + 1]? = some (.cells V 31 (0, 0))) := by rw [hV]; exact RV.out
      have hZl : Z.toArray.size = 16 := by rw [HZ.out, List.size_toArray, bc_len]
      clear hV
      go_wp2_with (first
        | (refine wpList_load_row rfl 31 _ rfl (w.heap.size + 1) rfl 31 V (0, 0) _ R2.out Tryd.underlying31 rfl (by rw [hVl]; rfl) ?_)
        | (refine wpList_store_row rfl 31 _ _ rfl (w.heap.size + 1 + 1) V rfl rfl 31 Z.toArray R1.out (by rw [hVl]; rfl) (by rw [hZl, hVl]) hV1.out ?_))
      refine bodyPost_ret (v := .agg V) (results_cell_row rfl _ _ (w.heap.size + 1 + 1) 31 V (0, 0) _ rfl (setRow_heap _ _ _ _ _ _ R1.out) Tryd.underlying31 rfl (by rw [hVl]; rfl)) rfl ⟨by rw [HV.out], ?_⟩
      exact below_setRow HB.out (by omega) _
end Go.Proofs.YtlkihbmkekadeaaDoor
