/- Proved here: for all numbers n, lo, hi OctetBack returns true and leaves its arguments as they were (what is put is the number again, of 32, 64 and 128 bits); no condition. -/
import Derived.Test.YtlcjkmgeaiclbaaBytes
import Derived.Test.YtlcjkmgeaiclbaaWords
namespace Go.Proofs.Ytlcjkmgeaiclbaa
open Go.ChangeShapes Go.WideShapes Go.ChangeAt Go.RowKit

theorem store_all (W : World) (g : Nat) (old : Array Value) (cs : List Value) (t : TypeId) (hg : W.heap[g]? = some (.cells old t (0, 0))) (hl : old.size = cs.length) (h1 : ∀ v ∈ cs, v.oneCell' = true) :
    (storeCells ⟨g, 0, none⟩ cs).run Try.prog W = .ok () (W.setRow g cs.toArray) := by
  have h := run_storeCells_at Try.prog g 0 t cs 0 old W hg (by omega) h1
  rw [h]
  have e : old.toList.drop (0 + 0 + cs.length) = [] := List.drop_eq_nil_of_le (by simp; omega)
  rw [e]; simp
theorem two_rows (w2 : World) (Z4 Z8 : Array Value) (A4 A8 : List Value) (t4 t8 : TypeId) (h4 : Z4.size = A4.length) (h8 : Z8.size = A8.length) (o4 : ∀ v ∈ A4, v.oneCell' = true) (o8 : ∀ v ∈ A8, v.oneCell' = true) :
    ∃ W3 W4, (storeCells ⟨w2.heap.size, 0, none⟩ A4).run Try.prog ((w2.alloc (.cells Z4 t4)).alloc (.cells Z8 t8)) = .ok () W3 ∧ (storeCells ⟨w2.heap.size + 1, 0, none⟩ A8).run Try.prog W3 = .ok () W4 ∧
      W4.heap[w2.heap.size]? = some (.cells A4.toArray t4 (0, 0)) ∧ W4.heap[w2.heap.size + 1]? = some (.cells A8.toArray t8 (0, 0)) ∧ Below w2.heap.size w2 W4 := by
  have n1 : w2.heap.size + 1 ≠ w2.heap.size := by omega
  have s3 := store_all _ _ _ A4 _ (heap_alloc2_old w2 (.cells Z4 t4) (.cells Z8 t8)) h4 o4
  have s4 := store_all _ _ _ A8 _ ((setRow_other _ _ _ A4.toArray n1).trans (heap_alloc2_new w2 (.cells Z4 t4) (.cells Z8 t8))) h8 o8
  refine ⟨_, _, s3, s4, ?_, ?_, ?_⟩
  · rw [setRow_other _ _ _ _ n1.symm]; exact setRow_heap _ _ _ _ _ _ (heap_alloc2_old _ _ _)
  · exact setRow_heap _ _ _ _ _ _ ((setRow_other _ _ _ A4.toArray n1).trans (heap_alloc2_new _ _ _))
  · exact below_setRow (below_setRow (below_alloc (below_alloc (Below.refl _ _) _) _) (Nat.le_refl _) _) (by omega) _
set_option linter.unusedSimpArgs false in
set_option maxHeartbeats 4000000 in
theorem back_core (n lo hi : Int) (A4 A8 C : List Value) (h4 : A4.length = 4) (h8 : A8.length = 8) (hC : C.length = 16) (o4 : Hid (A4.toArray.all (·.oneCell') = true)) (o8 : Hid (A8.toArray.all (·.oneCell') = true)) (oC : Hid (C.toArray.all (·.oneCell') = true)) (w : World)
    (hEq : ∀ w, (Op.equalIn 10000 27 (.agg C.toArray) (.agg C.toArray)).run Try.prog w = .ok true w)
    (cP4 : Hid (∀ w, Calls Try.prog 20 #[.int .u32 n] w fun e w' => e = .returned (.agg A4.toArray) ∧ Below w.heap.size w w'))
    (cP8 : Hid (∀ w, Calls Try.prog 21 #[.int .u64 lo] w fun e w' => e = .returned (.agg A8.toArray) ∧ Below w.heap.size w w'))
    (cBy : Hid (∀ w, Calls Try.prog 22 #[.agg #[.int .u64 lo, .int .u64 hi]] w fun e w' => e = .returned (.agg C.toArray) ∧ Below w.heap.size w w'))
    (cW : Hid (∀ w g, w.heap[g]? = some (.cells A4.toArray 36 (0, 0)) → Calls Try.prog 14 #[.slice (some ⟨g, 0, none⟩) 4 4, .int .i64 0] w fun e w' => e = .returned (.int .u32 n) ∧ Below w.heap.size w w'))
    (cL : Hid (∀ w g, w.heap[g]? = some (.cells A8.toArray 38 (0, 0)) → Calls Try.prog 16 #[.slice (some ⟨g, 0, none⟩) 8 8, .int .i64 0] w fun e w' => e = .returned (.int .u64 lo) ∧ Below w.heap.size w w'))
    (cLd : Hid (∀ w g, w.heap[g]? = some (.cells C.toArray 27 (0, 0)) → Calls Try.prog 12 #[.slice (some ⟨g, 0, none⟩) 16 16] w fun e w' => e = .returned (.agg #[.int .u64 lo, .int .u64 hi]) ∧ Below w.heap.size w w'))
    (cBk : Hid (∀ w g, w.heap[g]? = some (.cells C.toArray 27 (0, 0)) → Calls Try.prog 18 #[.slice (some ⟨g, 0, none⟩) 16 16] w fun e w' => e = .returned (.agg C.toArray) ∧ Below w.heap.size w w')) :
    Calls Try.prog 7 #[.int .u32 n, .int .u64 lo, .int .u64 hi] w fun e w' => e = .returned (.bool true) ∧ Below w.heap.size w w' := by
  obtain ⟨Z0, hZ⟩ : ∃ Z0, Z0 = (bcells nought16).toArray := ⟨_, rfl⟩
  have hz : ∀ w, (zeroValue 27).run Try.prog w = .ok (.agg Z0) w := by rw [hZ]; exact zero16
  have hZl : Z0.size = 16 := by rw [hZ]; rfl
  clear hZ
  go_enter Try.func7, Try.ntmps7
  go_wp2_with fail
  refine (cP4.out _).mono ?_
  rintro e w1 ⟨rfl, b1⟩
  go_wp2_with fail
  refine (cP8.out _).mono ?_
  rintro e w2 ⟨rfl, b2⟩
  obtain ⟨W3, W4, s3, s4, k4, k8, b4⟩ := two_rows w2 #[.int .u8 0, .int .u8 0, .int .u8 0, .int .u8 0] #[.int .u8 0, .int .u8 0, .int .u8 0, .int .u8 0, .int .u8 0, .int .u8 0, .int .u8 0, .int .u8 0] A4 A8 36 38 (by rw [h4]; rfl) (by rw [h8]; rfl) (all_one o4.out) (all_one o8.out)
  have K4 := hide k4
  have K8 := hide k8
  have B4 := hide (below_two (below_two b1 b2) b4)
  have I4 : Hid (w2.heap.size < W4.heap.size) := (Array.getElem?_eq_some_iff.1 k4).1
  have I8 : Hid (w2.heap.size + 1 < W4.heap.size) := (Array.getElem?_eq_some_iff.1 k8).1
  clear k4 k8 b4 b1 b2
  go_wp2_with fail
  refine (cBy.out _).mono ?_
  rintro e w5 ⟨rfl, b5⟩
  have hst : ∀ w : World, (storeCells ⟨w.heap.size, 0, none⟩ C).run Try.prog (w.alloc (.cells Z0 27)) = .ok () (w.alloc (.cells C.toArray 27)) := fun w => by
    have := run_storeCells_new (P := Try.prog) w 27 Z0 C.toArray (by rw [List.size_toArray, hC]; rfl) (by rw [hZl, List.size_toArray, hC]) oC.out
    simpa using this
  have b6 : Below W4.heap.size W4 w5 := below_two (below_alloc (Below.refl _ _) _) b5
  obtain ⟨W0, hW0⟩ : ∃ W0, W0 = w5.alloc (.cells C.toArray 27) := ⟨_, rfl⟩
  have b7 : Below w5.heap.size w5 W0 := by rw [hW0]; exact below_alloc (Below.refl _ _) _
  have b8 : Below W4.heap.size W4 W0 := below_two b6 b7
  have v0 : W0.cell? ⟨W4.heap.size, 0, none⟩ = some (.int .u64 lo) := later b7 (later b5 (by simp [go_sem]))
  have v1 : W0.cell? ⟨W4.heap.size, 1, none⟩ = some (.int .u64 hi) := later b7 (later b5 (by simp [go_sem]))
  have vC : W0.heap[w5.heap.size]? = some (.cells C.toArray 27 (0, 0)) := by rw [hW0]; exact heap_alloc_new _ _
  have v2 : W0.rangeAt w5.heap.size 0 C := by
    intro j v hj
    rw [cell_of_row _ _ _ _ _ _ vC]; simpa using hj
  have g4 : Hid (∀ w', Below W0.heap.size W0 w' → w'.heap[w2.heap.size]? = some (.cells A4.toArray 36 (0, 0))) := fun w' hb => (hb.block _ (Nat.lt_of_lt_of_le I4.out b8.size)).trans ((b8.block _ I4.out).trans K4.out)
  have g8 : Hid (∀ w', Below W0.heap.size W0 w' → w'.heap[w2.heap.size + 1]? = some (.cells A8.toArray 38 (0, 0))) := fun w' hb => (hb.block _ (Nat.lt_of_lt_of_le I8.out b8.size)).trans ((b8.block _ I8.out).trans K8.out)
  have gC : Hid (∀ w', Below W0.heap.size W0 w' → w'.heap[w5.heap.size]? = some (.cells C.toArray 27 (0, 0))) := fun w' hb => (hb.block _ (Array.getElem?_eq_some_iff.1 vC).1).trans vC
  have B8 := hide (below_two B4.out b8)
  clear b5 b6 b7 b8 vC s3 s4 K4 K8 B4 I4 I8
  go_wp2_with fail
  rw [← hW0]
  clear hW0 hst hz
  have hun27 : Try.prog.underlying 27 = some (.array 16 5) := Try.underlying27
  have i27 : (Try.prog.info? 27).map (·.size) = some C.length := by rw [hC]; rfl
  refine wp_region_held_drew (S := fun w' => Below W0.heap.size W0 w' ∧ w'.cell? ⟨W4.heap.size, 0, none⟩ = some (.int .u64 lo) ∧ w'.cell? ⟨W4.heap.size, 1, none⟩ = some (.int .u64 hi) ∧ w'.rangeAt w5.heap.size 0 C) (by kernel_rfl) ?_ (fun hHeld => ?_)
  · exact ⟨(Below.refl _ _).drew, v0, v1, v2⟩
  refine wpAnyH_take (i := 0) (v := ?_) rfl (by kernel_rfl) (by kernel_rfl) (by kernel_rfl) (fun _ _ _ h => h) (Or.inl ⟨by rfl, ?_⟩) (by assumption) ?_
  rotate_left
  · (intro w hSw; (try dsimp only at hSw); simp only [List.getElem_toArray, List.getElem_cons_zero]; go_simp; try with_reducible rfl)
  simp only [Act.put, List.getElem_toArray, List.getElem_cons_zero, List.setIfInBounds_toArray, List.set_cons_zero, List.set_cons_succ]
  refine wpAnyH_take (i := 2) (v := ?_) rfl (by kernel_rfl) (by kernel_rfl) (by kernel_rfl) (fun _ _ _ h => h) (Or.inl ⟨by rfl, ?_⟩) (by assumption) ?_
  rotate_left
  · (intro w hSw; (try dsimp only at hSw); simp only [List.getElem_toArray, List.getElem_cons_succ, List.getElem_cons_zero]; go_simp; try with_reducible rfl)
  simp only [Act.put, List.getElem_toArray, List.getElem_cons_succ, List.getElem_cons_zero, List.setIfInBounds_toArray, List.set_cons_zero, List.set_cons_succ]
  refine wpAnyH_ready (rs := [1]) (by kernel_rfl) (by simp) ?_
  refine AllReadyH.cons rfl (fun K hK => ?_) AllReadyH.nil
  simp only [List.getElem_toArray, List.getElem_cons_succ, List.getElem_cons_zero]
  go_simp
  refine (cW.out _ _ (g4.out _ hHeld.1)).mono ?_; rintro e w' ⟨rfl, hb⟩
  go_wp2_with fail
  refine hK.out _ _ ?_ (fun hHeld => ?_)
  · exact keep4 hHeld hb
  clear hK K
  try simp only [Act.put, List.setIfInBounds_toArray, List.set_cons_zero, List.set_cons_succ]
  refine wpAnyH_take (i := 3) (v := ?_) rfl (by kernel_rfl) (by kernel_rfl) (by kernel_rfl) (fun _ _ _ h => h) (Or.inl ⟨by rfl, ?_⟩) (by assumption) ?_
  rotate_left
  · (intro w hSw; (try dsimp only at hSw); simp only [List.getElem_toArray, List.getElem_cons_succ, List.getElem_cons_zero]; go_simp; try with_reducible rfl)
  simp only [Act.put, List.getElem_toArray, List.getElem_cons_succ, List.getElem_cons_zero, List.setIfInBounds_toArray, List.set_cons_zero, List.set_cons_succ]
  refine wpAnyH_take (i := 4) (v := ?_) rfl (by kernel_rfl) (by kernel_rfl) (by kernel_rfl) (fun _ _ _ h => h) (Or.inl ⟨by rfl, ?_⟩) (by assumption) ?_
  rotate_left
  · (intro w hSw; (try dsimp only at hSw); simp only [List.getElem_toArray, List.getElem_cons_succ, List.getElem_cons_zero]; go_simp; try with_reducible rfl)
  simp only [Act.put, List.getElem_toArray, List.getElem_cons_succ, List.getElem_cons_zero, List.setIfInBounds_toArray, List.set_cons_zero, List.set_cons_succ]
  refine wpAnyH_take (i := 5) (v := ?_) rfl (by kernel_rfl) (by kernel_rfl) (by kernel_rfl) (fun _ _ _ h => h) (Or.inl ⟨by rfl, ?_⟩) (by assumption) ?_
  rotate_left
  · (intro w hSw; (try dsimp only at hSw); simp only [List.getElem_toArray, List.getElem_cons_succ, List.getElem_cons_zero]; go_simp; try with_reducible rfl)
  simp only [Act.put, List.getElem_toArray, List.getElem_cons_succ, List.getElem_cons_zero, List.setIfInBounds_toArray, List.set_cons_zero, List.set_cons_succ]
  refine wpAnyH_take (i := 7) (v := ?_) rfl (by kernel_rfl) (by kernel_rfl) (by kernel_rfl) (fun _ _ _ h => h) (Or.inl ⟨by rfl, ?_⟩) (by assumption) ?_
  rotate_left
  · (intro w hSw; (try dsimp only at hSw); simp only [List.getElem_toArray, List.getElem_cons_succ, List.getElem_cons_zero]; go_simp; try with_reducible rfl)
  simp only [Act.put, List.getElem_toArray, List.getElem_cons_succ, List.getElem_cons_zero, List.setIfInBounds_toArray, List.set_cons_zero, List.set_cons_succ]
  refine wpAnyH_ready (rs := [6]) (by kernel_rfl) (by simp) ?_
  refine AllReadyH.cons rfl (fun K hK => ?_) AllReadyH.nil
  simp only [List.getElem_toArray, List.getElem_cons_succ, List.getElem_cons_zero]
  go_simp
  refine (cL.out _ _ (g8.out _ hHeld.1)).mono ?_; rintro e w' ⟨rfl, hb⟩
  go_wp2_with fail
  refine hK.out _ _ ?_ (fun hHeld => ?_)
  · exact keep4 hHeld hb
  clear hK K
  try simp only [Act.put, List.setIfInBounds_toArray, List.set_cons_zero, List.set_cons_succ]
  refine wpAnyH_take (i := 8) (v := ?_) rfl (by kernel_rfl) (by kernel_rfl) (by kernel_rfl) (fun _ _ _ h => h) (Or.inl ⟨by rfl, ?_⟩) (by assumption) ?_
  rotate_left
  · (intro w hSw; (try dsimp only at hSw); simp only [List.getElem_toArray, List.getElem_cons_succ, List.getElem_cons_zero]; go_simp; try with_reducible rfl)
  simp only [Act.put, List.getElem_toArray, List.getElem_cons_succ, List.getElem_cons_zero, List.setIfInBounds_toArray, List.set_cons_zero, List.set_cons_succ]
  refine wpAnyH_take (i := 9) (v := ?_) rfl (by kernel_rfl) (by kernel_rfl) (by kernel_rfl) (fun _ _ _ h => h) (Or.inl ⟨by rfl, ?_⟩) (by assumption) ?_
  rotate_left
  · (intro w hSw; (try dsimp only at hSw); simp only [List.getElem_toArray, List.getElem_cons_succ, List.getElem_cons_zero]; go_simp; try with_reducible rfl)
  simp only [Act.put, List.getElem_toArray, List.getElem_cons_succ, List.getElem_cons_zero, List.setIfInBounds_toArray, List.set_cons_zero, List.set_cons_succ]
  refine wpAnyH_take (i := 10) (v := ?_) rfl (by kernel_rfl) (by kernel_rfl) (by kernel_rfl) (fun _ _ _ h => h) (Or.inl ⟨by rfl, ?_⟩) (by assumption) ?_
  rotate_left
  · (intro w hSw; (try dsimp only at hSw); simp only [List.getElem_toArray, List.getElem_cons_succ, List.getElem_cons_zero]; go_simp; try with_reducible rfl)
  simp only [Act.put, List.getElem_toArray, List.getElem_cons_succ, List.getElem_cons_zero, List.setIfInBounds_toArray, List.set_cons_zero, List.set_cons_succ]
  refine wpAnyH_take (i := 11) (v := ?_) rfl (by kernel_rfl) (by kernel_rfl) (by kernel_rfl) (fun _ _ _ h => h) (Or.inl ⟨by rfl, ?_⟩) (by assumption) ?_
  rotate_left
  · (intro w hSw; (try dsimp only at hSw); simp only [List.getElem_toArray, List.getElem_cons_succ, List.getElem_cons_zero]; go_simp; try with_reducible rfl)
  simp only [Act.put, List.getElem_toArray, List.getElem_cons_succ, List.getElem_cons_zero, List.setIfInBounds_toArray, List.set_cons_zero, List.set_cons_succ]
  refine wpAnyH_take (i := 13) (v := ?_) rfl (by kernel_rfl) (by kernel_rfl) (by kernel_rfl) (fun _ _ _ h => h) (Or.inl ⟨by rfl, ?_⟩) (by assumption) ?_
  rotate_left
  · (intro w hSw; (try dsimp only at hSw); simp only [List.getElem_toArray, List.getElem_cons_succ, List.getElem_cons_zero]; go_simp; try with_reducible rfl)
  simp only [Act.put, List.getElem_toArray, List.getElem_cons_succ, List.getElem_cons_zero, List.setIfInBounds_toArray, List.set_cons_zero, List.set_cons_succ]
  refine wpAnyH_ready (rs := [12]) (by kernel_rfl) (by simp) ?_
  refine AllReadyH.cons rfl (fun K hK => ?_) AllReadyH.nil
  simp only [List.getElem_toArray, List.getElem_cons_succ, List.getElem_cons_zero]
  go_simp
  refine (cLd.out _ _ (gC.out _ hHeld.1)).mono ?_; rintro e w' ⟨rfl, hb⟩
  go_wp2_with fail
  refine hK.out _ _ ?_ (fun hHeld => ?_)
  · exact keep4 hHeld hb
  clear hK K
  try simp only [Act.put, List.setIfInBounds_toArray, List.set_cons_zero, List.set_cons_succ]
  refine wpAnyH_take (i := 14) (v := ?_) rfl (by kernel_rfl) (by kernel_rfl) (by kernel_rfl) (fun _ _ _ h => h) (Or.inl ⟨by rfl, ?_⟩) (by assumption) ?_
  rotate_left
  · (intro w hSw; (try dsimp only at hSw); simp only [List.getElem_toArray, List.getElem_cons_succ, List.getElem_cons_zero]; go_simp; try with_reducible rfl)
  simp only [Act.put, List.getElem_toArray, List.getElem_cons_succ, List.getElem_cons_zero, List.setIfInBounds_toArray, List.set_cons_zero, List.set_cons_succ]
  refine wpAnyH_take (i := 15) (v := ?_) rfl (by kernel_rfl) (by kernel_rfl) (by kernel_rfl) (fun _ _ _ h => h) (Or.inl ⟨by rfl, ?_⟩) (by assumption) ?_
  rotate_left
  · (intro w hSw; (try dsimp only at hSw); simp only [List.getElem_toArray, List.getElem_cons_succ, List.getElem_cons_zero]; go_simp; try with_reducible rfl)
  simp only [Act.put, List.getElem_toArray, List.getElem_cons_succ, List.getElem_cons_zero, List.setIfInBounds_toArray, List.set_cons_zero, List.set_cons_succ]
  refine wpAnyH_take (i := 16) (v := ?_) rfl (by kernel_rfl) (by kernel_rfl) (by kernel_rfl) (fun _ _ _ h => h) (Or.inl ⟨by rfl, ?_⟩) (by assumption) ?_
  rotate_left
  · (intro w hSw; (try dsimp only at hSw); simp only [List.getElem_toArray, List.getElem_cons_succ, List.getElem_cons_zero]; go_simp; try with_reducible rfl)
  simp only [Act.put, List.getElem_toArray, List.getElem_cons_succ, List.getElem_cons_zero, List.setIfInBounds_toArray, List.set_cons_zero, List.set_cons_succ]
  refine wpAnyH_take (i := 17) (v := ?_) rfl (by kernel_rfl) (by kernel_rfl) (by kernel_rfl) (fun _ _ _ h => h) (Or.inl ⟨by rfl, ?_⟩) (by assumption) ?_
  rotate_left
  · (intro w hSw; (try dsimp only at hSw); simp only [List.getElem_toArray, List.getElem_cons_succ, List.getElem_cons_zero]; go_simp; try with_reducible rfl)
  simp only [Act.put, List.getElem_toArray, List.getElem_cons_succ, List.getElem_cons_zero, List.setIfInBounds_toArray, List.set_cons_zero, List.set_cons_succ]
  refine wpAnyH_take (i := 19) rfl (by kernel_rfl) (by kernel_rfl) (by kernel_rfl) (fun _ _ _ h => h) (yieldsIf_load_mid (by rfl) _ _ rfl _ _ rfl C _ (fun w hSw => hSw.2.2.2) hun27 rfl i27) (by assumption) ?_
  simp only [Act.put, List.getElem_toArray, List.getElem_cons_succ, List.getElem_cons_zero, List.setIfInBounds_toArray, List.set_cons_zero, List.set_cons_succ]
  refine wpAnyH_ready (rs := [18]) (by kernel_rfl) (by simp) ?_
  refine AllReadyH.cons rfl (fun K hK => ?_) AllReadyH.nil
  simp only [List.getElem_toArray, List.getElem_cons_succ, List.getElem_cons_zero]
  go_simp
  refine (cBk.out _ _ (gC.out _ hHeld.1)).mono ?_; rintro e w' ⟨rfl, hb⟩
  go_wp2_with fail
  refine hK.out _ _ ?_ (fun hHeld => ?_)
  · exact keep4 hHeld hb
  clear hK K
  try simp only [Act.put, List.setIfInBounds_toArray, List.set_cons_zero, List.set_cons_succ]
  refine wpAnyH_take (i := 20) (v := ?_) rfl (by kernel_rfl) (by kernel_rfl) (by kernel_rfl) (fun _ _ _ h => h) (Or.inl ⟨by rfl, ?_⟩) (by assumption) ?_
  rotate_left
  · (intro w hSw; (try dsimp only at hSw); simp only [List.getElem_toArray, List.getElem_cons_succ, List.getElem_cons_zero]; go_simp; try with_reducible rfl)
  simp only [Act.put, List.getElem_toArray, List.getElem_cons_succ, List.getElem_cons_zero, List.setIfInBounds_toArray, List.set_cons_zero, List.set_cons_succ]
  refine wpAnyH_take (i := 21) (v := ?_) rfl (by kernel_rfl) (by kernel_rfl) (by kernel_rfl) (fun _ _ _ h => h) (Or.inl ⟨by rfl, ?_⟩) (by assumption) ?_
  rotate_left
  · (intro w hSw; (try dsimp only at hSw); simp only [List.getElem_toArray, List.getElem_cons_succ, List.getElem_cons_zero]; go_simp; try with_reducible rfl)
  simp only [Act.put, List.getElem_toArray, List.getElem_cons_succ, List.getElem_cons_zero, List.setIfInBounds_toArray, List.set_cons_zero, List.set_cons_succ]
  refine wpAnyH_take (i := 22) (v := ?_) rfl (by kernel_rfl) (by kernel_rfl) (by kernel_rfl) (fun _ _ _ h => h) (Or.inl ⟨by rfl, ?_⟩) (by assumption) ?_
  rotate_left
  · (intro w hSw; (try dsimp only at hSw); simp only [List.getElem_toArray, List.getElem_cons_succ, List.getElem_cons_zero]; go_simp; try with_reducible rfl)
  simp only [Act.put, List.getElem_toArray, List.getElem_cons_succ, List.getElem_cons_zero, List.setIfInBounds_toArray, List.set_cons_zero, List.set_cons_succ]
  refine wpAnyH_ready (rs := [23]) (by kernel_rfl) (by simp) ?_
  refine AllReadyH.cons rfl (fun K hK => ?_) AllReadyH.nil
  simp only [List.getElem_toArray, List.getElem_cons_succ, List.getElem_cons_zero]
  go_simp
  refine (awake_any _).mono ?_; rintro e w' ⟨rfl, hb⟩
  go_wp2_with fail
  refine hK.out _ _ ?_ (fun hHeld => ?_)
  · exact keep4 hHeld hb
  clear hK K
  try simp only [Act.put, List.setIfInBounds_toArray, List.set_cons_zero, List.set_cons_succ]
  refine wpAnyH_take (i := 24) (v := ?_) rfl (by kernel_rfl) (by kernel_rfl) (by kernel_rfl) (fun _ _ _ h => h) (Or.inl ⟨by rfl, ?_⟩) (by assumption) ?_
  rotate_left
  · (intro w hSw; (try dsimp only at hSw); simp only [List.getElem_toArray, List.getElem_cons_succ, List.getElem_cons_zero]; go_simp; try with_reducible rfl)
  simp only [Act.put, List.getElem_toArray, List.getElem_cons_succ, List.getElem_cons_zero, List.setIfInBounds_toArray, List.set_cons_zero, List.set_cons_succ]
  refine wpAnyH_take (i := 25) (v := ?_) rfl (by kernel_rfl) (by kernel_rfl) (by kernel_rfl) (fun _ _ _ h => h) (Or.inl ⟨by rfl, ?_⟩) (by assumption) ?_
  rotate_left
  · (intro w hSw; (try dsimp only at hSw); simp only [List.getElem_toArray, List.getElem_cons_succ, List.getElem_cons_zero]; go_simp; try with_reducible rfl)
  simp only [Act.put, List.getElem_toArray, List.getElem_cons_succ, List.getElem_cons_zero, List.setIfInBounds_toArray, List.set_cons_zero, List.set_cons_succ]
  refine wpAnyH_done (by kernel_rfl) ?_ _
  go_wp2
  go_ret
  exact ⟨rfl, below_two B8.out (And.left (by assumption))⟩
end Go.Proofs.Ytlcjkmgeaiclbaa
