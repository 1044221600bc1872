/- Own: the contract of put of layer 3; the tables of layer 3, and the contract of New; the contracts of layer 3's calls, with its tables; rows of keys, and the contract of Rounds of layer 3 (no statement is proved here). -/
import Derived.Test.YtdfbcdgneboilaaDoorOT1
namespace Go.Proofs.YtdfbcdgneboilaaDoor
open Go.ChangeShapes Go.WideShapes Go.ChangeAt Go.RowKit
set_option maxRecDepth 20000

set_option linter.unusedSimpArgs false in
set_option maxRecDepth 100000 in
set_option maxHeartbeats 4000000 in
theorem tput_core (g gb a s s' : Nat) (C0 : List Value) (T : Nat → List Value) (P Q X Y : Nat → Nat → Nat) (M U : Nat → Nat) (w : World) (ha : a < 256) (hg1 : 1 < g)
    (hg : Hid (w.heap[g]? = some (.cells C0.toArray 77 (0, 0)))) (hC : C0.length = 2560) (HL : Hid (∀ r, (T r).length = 2560))
    (h0 : Hid ((C0.set a (.int .u8 (s : Nat))).set (256 + a) (.int .u8 (s' : Nat)) = T 0))
    (hs : Hid (∀ r, r ≤ 4 → (T r)[a]? = some (.int .u8 (s : Nat))))
    (hT : Hid (∀ r, r < 4 → ((T r).set (512 + r * 256 + a) (.int .u32 (M r : Nat))).set (1536 + r * 256 + a) (.int .u32 (U r : Nat)) = T (r + 1)))
    (cTo : Hid (Calls Tryd.prog 59 #[.pointer (some ⟨gb, 0, none⟩), .int .u8 (a : Nat)] w.drew fun e w' => e = .returned (.int .u8 (s : Nat)) ∧ w' = w.drew))
    (cBk : Hid (Calls Tryd.prog 60 #[.pointer (some ⟨gb, 0, none⟩), .int .u8 (a : Nat)] w.drew fun e w' => e = .returned (.int .u8 (s' : Nat)) ∧ w' = w.drew))
    (laid : Hid (∀ w', Below g w w' → ∀ i r, i < 4 → r < 4 → w'.cell? ⟨0, i * 4 + r, none⟩ = some (.int .u8 (P i r : Nat)) ∧ w'.cell? ⟨1, i * 4 + r, none⟩ = some (.int .u8 (Q i r : Nat))))
    (cX : Hid (∀ i r, i < 4 → r < 4 → ∀ w, Calls Tryd.prog 43 #[.int .u8 (P i r : Nat), .int .u8 (s : Nat)] w fun e w' => e = .returned (.int .u8 (X r i : Nat)) ∧ w' = w))
    (cY : Hid (∀ i r, i < 4 → r < 4 → ∀ w, Calls Tryd.prog 43 #[.int .u8 (Q i r : Nat), .int .u8 (a : Nat)] w fun e w' => e = .returned (.int .u8 (Y r i : Nat)) ∧ w' = w))
    (cW : Hid (∀ r, r < 4 → ∀ (w : World) (n : Nat), w.heap[n]? = some (.cells (bc 4 (X r)).toArray 62 (0, 0)) → Calls Tryd.prog 48 #[.slice (some ⟨n, 0, none⟩) 4 4, .int .i64 0] w fun e w' => e = .returned (.int .u32 (M r : Nat)) ∧ Below w.heap.size w w'))
    (cV : Hid (∀ r, r < 4 → ∀ (w : World) (n : Nat), w.heap[n]? = some (.cells (bc 4 (Y r)).toArray 62 (0, 0)) → Calls Tryd.prog 48 #[.slice (some ⟨n, 0, none⟩) 4 4, .int .i64 0] w fun e w' => e = .returned (.int .u32 (U r : Nat)) ∧ Below w.heap.size w w')) :
    Calls Tryd.prog 40 #[.pointer (some ⟨g, 0, none⟩), .int .u8 (a : Nat), .pointer (some ⟨gb, 0, none⟩)] w fun e w' => e = .returned (.tuple #[]) ∧ w'.heap[g]? = some (.cells (T 4).toArray 77 (0, 0)) ∧ Below g w w' := by
  obtain ⟨v1, hv1⟩ : ∃ v, C0[a]? = some v := ⟨_, List.getElem?_eq_getElem (by omega)⟩
  obtain ⟨v2, hv2⟩ : ∃ v, C0[256 + a]? = some v := ⟨_, List.getElem?_eq_getElem (by omega)⟩
  have c1 : w.cell? ⟨g, a, none⟩ = some v1 := by rw [cell_of_row w _ _ _ _ _ hg.out]; simpa using hv1
  have f1 : w.frozen? ⟨g, a, none⟩ = false := frozen_of_row w _ _ _ _ hg.out
  have c2 : ∀ u, (w.setCell ⟨g, a, none⟩ u).cell? ⟨g, 256 + a, none⟩ = some v2 := fun u => by
    rw [cell_of_row _ _ _ _ _ _ (cell_set_row w g a C0 _ u hg.out)]
    simp [hv2, show a ≠ 256 + a by omega]
  have f2 : ∀ u, (w.setCell ⟨g, a, none⟩ u).frozen? ⟨g, 256 + a, none⟩ = false := fun u => frozen_of_row _ _ _ _ _ (cell_set_row w g a C0 _ u hg.out)
  have i1 : (a : Int) < 256 := by omega
  clear hv1 hv2
  go_enter Tryd.func40, Tryd.ntmps40
  go_wp2_with fail
  refine wp_region_held_drew (S := fun _ => True) (by kernel_rfl) ?_ (fun hHeld => ?_)
  · trivial
  refine wpAnyH_take (i := 0) (v := ?_) rfl (by kernel_rfl) (by kernel_rfl) (by kernel_rfl) (fun _ _ _ h => h) (Or.inl ⟨by rfl, ?_⟩) (by assumption) ?_
  rotate_left
  · (intro w hSw; (try dsimp only at hSw); simp only [List.getElem_toArray, List.getElem_cons_zero]; go_simp; try with_reducible rfl)
  simp only [Act.put, List.getElem_toArray, List.getElem_cons_zero, List.setIfInBounds_toArray, List.set_cons_zero, List.set_cons_succ]
  refine wpAnyH_take (i := 1) (v := ?_) rfl (by kernel_rfl) (by kernel_rfl) (by kernel_rfl) (fun _ _ _ h => h) (Or.inl ⟨by rfl, ?_⟩) (by assumption) ?_
  rotate_left
  · (intro w hSw; (try dsimp only at hSw); simp only [List.getElem_toArray, List.getElem_cons_succ, List.getElem_cons_zero]; go_simp; try with_reducible rfl)
  simp only [Act.put, List.getElem_toArray, List.getElem_cons_succ, List.getElem_cons_zero, List.setIfInBounds_toArray, List.set_cons_zero, List.set_cons_succ]
  refine wpAnyH_take (i := 2) (v := ?_) rfl (by kernel_rfl) (by kernel_rfl) (by kernel_rfl) (fun _ _ _ h => h) (Or.inl ⟨by rfl, ?_⟩) (by assumption) ?_
  rotate_left
  · (intro w hSw; (try dsimp only at hSw); simp only [List.getElem_toArray, List.getElem_cons_succ, List.getElem_cons_zero]; go_simp; try with_reducible rfl)
  simp only [Act.put, List.getElem_toArray, List.getElem_cons_succ, List.getElem_cons_zero, List.setIfInBounds_toArray, List.set_cons_zero, List.set_cons_succ]
  refine wpAnyH_take (i := 3) (v := ?_) rfl (by kernel_rfl) (by kernel_rfl) (by kernel_rfl) (fun _ _ _ h => h) (Or.inl ⟨by rfl, ?_⟩) (by assumption) ?_
  rotate_left
  · (intro w hSw; (try dsimp only at hSw); simp only [List.getElem_toArray, List.getElem_cons_succ, List.getElem_cons_zero]; go_simp; try with_reducible rfl)
  simp only [Act.put, List.getElem_toArray, List.getElem_cons_succ, List.getElem_cons_zero, List.setIfInBounds_toArray, List.set_cons_zero, List.set_cons_succ]
  refine wpAnyH_take (i := 4) (v := ?_) rfl (by kernel_rfl) (by kernel_rfl) (by kernel_rfl) (fun _ _ _ h => h) (Or.inl ⟨by rfl, ?_⟩) (by assumption) ?_
  rotate_left
  · (intro w hSw; (try dsimp only at hSw); simp only [List.getElem_toArray, List.getElem_cons_succ, List.getElem_cons_zero]; go_simp; try with_reducible rfl)
  simp only [Act.put, List.getElem_toArray, List.getElem_cons_succ, List.getElem_cons_zero, List.setIfInBounds_toArray, List.set_cons_zero, List.set_cons_succ]
  refine wpAnyH_take (i := 5) (v := ?_) rfl (by kernel_rfl) (by kernel_rfl) (by kernel_rfl) (fun _ _ _ h => h) (Or.inl ⟨by rfl, ?_⟩) (by assumption) ?_
  rotate_left
  · (intro w hSw; (try dsimp only at hSw); simp only [List.getElem_toArray, List.getElem_cons_succ, List.getElem_cons_zero]; go_simp; try with_reducible rfl)
  simp only [Act.put, List.getElem_toArray, List.getElem_cons_succ, List.getElem_cons_zero, List.setIfInBounds_toArray, List.set_cons_zero, List.set_cons_succ]
  refine wpAnyH_take (i := 7) (v := ?_) rfl (by kernel_rfl) (by kernel_rfl) (by kernel_rfl) (fun _ _ _ h => h) (Or.inl ⟨by rfl, ?_⟩) (by assumption) ?_
  rotate_left
  · (intro w hSw; (try dsimp only at hSw); simp only [List.getElem_toArray, List.getElem_cons_succ, List.getElem_cons_zero]; go_simp; try with_reducible rfl)
  simp only [Act.put, List.getElem_toArray, List.getElem_cons_succ, List.getElem_cons_zero, List.setIfInBounds_toArray, List.set_cons_zero, List.set_cons_succ]
  refine wpAnyH_take (i := 8) (v := ?_) rfl (by kernel_rfl) (by kernel_rfl) (by kernel_rfl) (fun _ _ _ h => h) (Or.inl ⟨by rfl, ?_⟩) (by assumption) ?_
  rotate_left
  · (intro w hSw; (try dsimp only at hSw); simp only [List.getElem_toArray, List.getElem_cons_succ, List.getElem_cons_zero]; go_simp; try with_reducible rfl)
  simp only [Act.put, List.getElem_toArray, List.getElem_cons_succ, List.getElem_cons_zero, List.setIfInBounds_toArray, List.set_cons_zero, List.set_cons_succ]
  refine wpAnyH_take (i := 10) (v := ?_) rfl (by kernel_rfl) (by kernel_rfl) (by kernel_rfl) (fun _ _ _ h => h) (Or.inl ⟨by rfl, ?_⟩) (by assumption) ?_
  rotate_left
  · (intro w hSw; (try dsimp only at hSw); simp only [List.getElem_toArray, List.getElem_cons_succ, List.getElem_cons_zero]; go_simp; try with_reducible rfl)
  simp only [Act.put, List.getElem_toArray, List.getElem_cons_succ, List.getElem_cons_zero, List.setIfInBounds_toArray, List.set_cons_zero, List.set_cons_succ]
  refine wpAnyH_take (i := 11) (v := ?_) rfl (by kernel_rfl) (by kernel_rfl) (by kernel_rfl) (fun _ _ _ h => h) (Or.inl ⟨by rfl, ?_⟩) (by assumption) ?_
  rotate_left
  · (intro w hSw; (try dsimp only at hSw); simp only [List.getElem_toArray, List.getElem_cons_succ, List.getElem_cons_zero]; go_simp; try with_reducible rfl)
  simp only [Act.put, List.getElem_toArray, List.getElem_cons_succ, List.getElem_cons_zero, List.setIfInBounds_toArray, List.set_cons_zero, List.set_cons_succ]
  refine wpAnyH_take (i := 14) (v := ?_) rfl (by kernel_rfl) (by kernel_rfl) (by kernel_rfl) (fun _ _ _ h => h) (Or.inl ⟨by rfl, ?_⟩) (by assumption) ?_
  rotate_left
  · (intro w hSw; (try dsimp only at hSw); simp only [List.getElem_toArray, List.getElem_cons_succ, List.getElem_cons_zero]; go_simp; try with_reducible rfl)
  simp only [Act.put, List.getElem_toArray, List.getElem_cons_succ, List.getElem_cons_zero, List.setIfInBounds_toArray, List.set_cons_zero, List.set_cons_succ]
  refine wpAnyH_take (i := 15) (v := ?_) rfl (by kernel_rfl) (by kernel_rfl) (by kernel_rfl) (fun _ _ _ h => h) (Or.inl ⟨by rfl, ?_⟩) (by assumption) ?_
  rotate_left
  · (intro w hSw; (try dsimp only at hSw); simp only [List.getElem_toArray, List.getElem_cons_succ, List.getElem_cons_zero]; go_simp; try with_reducible rfl)
  simp only [Act.put, List.getElem_toArray, List.getElem_cons_succ, List.getElem_cons_zero, List.setIfInBounds_toArray, List.set_cons_zero, List.set_cons_succ]
  refine wpAnyH_ready (rs := [6]) (by kernel_rfl) (by simp) ?_
  refine AllReadyH.cons rfl (fun K hK => ?_) AllReadyH.nil
  simp only [List.getElem_toArray, List.getElem_cons_succ, List.getElem_cons_zero]
  go_simp
  refine (cTo.out).mono ?_
  rintro e w8 ⟨rfl, rfl⟩
  refine hK.out _ _ ?_ (fun hHeld => ?_)
  · trivial
  clear hK K
  try simp only [Act.put, List.setIfInBounds_toArray, List.set_cons_zero, List.set_cons_succ]
  refine wpAnyH_ready (rs := [9]) (by kernel_rfl) (by simp) ?_
  refine AllReadyH.cons rfl (fun K hK => ?_) AllReadyH.nil
  simp only [List.getElem_toArray, List.getElem_cons_succ, List.getElem_cons_zero]
  go_simp
  refine (cBk.out).mono ?_
  rintro e w9 ⟨rfl, rfl⟩
  refine hK.out _ _ ?_ (fun hHeld => ?_)
  · trivial
  clear hK K
  try simp only [Act.put, List.setIfInBounds_toArray, List.set_cons_zero, List.set_cons_succ]
  refine wpAnyH_take (i := 12) (v := ?_) rfl (by kernel_rfl) (by kernel_rfl) (by kernel_rfl) (fun _ _ _ h => h) (Or.inl ⟨by rfl, ?_⟩) (by assumption) ?_
  rotate_left
  · (intro w hSw; (try dsimp only at hSw); simp only [List.getElem_toArray, List.getElem_cons_succ, List.getElem_cons_zero]; go_simp; try with_reducible rfl)
  simp only [Act.put, List.getElem_toArray, List.getElem_cons_succ, List.getElem_cons_zero, List.setIfInBounds_toArray, List.set_cons_zero, List.set_cons_succ]
  refine wpAnyH_ready (rs := [13]) (by kernel_rfl) (by simp) ?_
  refine AllReadyH.cons rfl (fun K hK => ?_) AllReadyH.nil
  simp only [List.getElem_toArray, List.getElem_cons_succ, List.getElem_cons_zero]
  go_simp
  refine hK.out _ _ ?_ (fun hHeld => ?_)
  · trivial
  clear hK K
  try simp only [Act.put, List.setIfInBounds_toArray, List.set_cons_zero, List.set_cons_succ]
  refine wpAnyH_take (i := 16) (v := ?_) rfl (by kernel_rfl) (by kernel_rfl) (by kernel_rfl) (fun _ _ _ h => h) (Or.inl ⟨by rfl, ?_⟩) (by assumption) ?_
  rotate_left
  · (intro w hSw; (try dsimp only at hSw); simp only [List.getElem_toArray, List.getElem_cons_succ, List.getElem_cons_zero]; go_simp; try with_reducible rfl)
  simp only [Act.put, List.getElem_toArray, List.getElem_cons_succ, List.getElem_cons_zero, List.setIfInBounds_toArray, List.set_cons_zero, List.set_cons_succ]
  refine wpAnyH_ready (rs := [17]) (by kernel_rfl) (by simp) ?_
  refine AllReadyH.cons rfl (fun K hK => ?_) AllReadyH.nil
  simp only [List.getElem_toArray, List.getElem_cons_succ, List.getElem_cons_zero]
  go_simp
  refine hK.out _ _ ?_ (fun hHeld => ?_)
  · trivial
  clear hK K
  try simp only [Act.put, List.setIfInBounds_toArray, List.set_cons_zero, List.set_cons_succ]
  refine wpAnyH_done (by kernel_rfl) ?_ _
  go_wp2_with fail
  go_loopw [26] (fun i wr => ∃ r : Nat, r ≤ 4 ∧ i = .int .i64 r ∧ Hid (Below g w wr ∧ wr.heap[g]? = some (.cells (T r).toArray 77 (0, 0)))) (fun i _ => 4 - (intOf i).toNat)
  case atStart =>
    refine ⟨0, by omega, rfl, ?_, ?_⟩
    · exact (((Below.refl g w).setCell (Nat.le_refl _) _).setCell (Nat.le_refl _) _).drew
    · rw [← h0.out]
      exact cell_set_row _ _ _ _ _ _ (cell_set_row w g a C0 _ _ hg.out)
  case round =>
    obtain ⟨r, hr, rfl, HR⟩ := hrel
    clear c1 f1 c2 f2
    by_cases hlt : r < 4
    · have hgs : g < wr.heap.size := (Array.getElem?_eq_some_iff.1 HR.out.2).1
      have hz4 := zero4
      obtain ⟨Z4, hZ4⟩ : ∃ Z4, Z4 = bc 4 (fun _ => 0) := ⟨_, rfl⟩
      rw [← hZ4] at hz4
      have HZ4 := hide hZ4
      clear hZ4
      go_wp2_with fail
      rw [show decide ((r : Int) < 4) = true from decide_eq_true (by omega)]
      obtain ⟨n, hn⟩ : ∃ n, n = wr.heap.size := ⟨_, rfl⟩
      rw [← hn]
      rw [← hn] at hgs
      have HN := hide hn
      clear hz4 hn
      go_loopw [29] (fun j w2 => ∃ i : Nat, i ≤ 4 ∧ j = .int .i64 i ∧ Hid ((Below g w w2 ∧ w2.heap[g]? = some (.cells (T r).toArray 77 (0, 0))) ∧ w2.heap[n]? = some (.cells (bc 4 (upto i (X r))).toArray 62 (0, 0)) ∧ w2.heap[n + 1]? = some (.cells (bc 4 (upto i (Y r))).toArray 62 (0, 0)))) (fun j _ => 4 - (intOf j).toNat)
      case atStart =>
        refine ⟨0, by omega, rfl, ⟨(HR.out.1.alloc (by have := HN.out; omega) _).alloc (by have := HN.out; simp; omega) _, ?_⟩, ?_, ?_⟩
        · exact ((below_alloc (below_alloc (Below.refl _ _) _) _).block g (by rw [← HN.out]; exact hgs)).trans HR.out.2
        · rw [HN.out, upto_zero, ← HZ4.out]; exact heap_alloc2_old _ _ _
        · rw [HN.out, upto_zero, ← HZ4.out]; exact heap_alloc2_new _ _ _
      case round =>
        obtain ⟨i, hi, rfl, H7⟩ := hrel
        clear HR
        by_cases hli : i < 4
        · obtain ⟨p, hp⟩ : ∃ p, p = P i r := ⟨_, rfl⟩
          obtain ⟨q, hq⟩ : ∃ q, q = Q i r := ⟨_, rfl⟩
          obtain ⟨l1, l2⟩ := laid.out wr H7.out.1.1 i r hli hlt
          have e1 : wr.cell? ⟨0, i * 4 + r, none⟩ = some (.int .u8 (p : Nat)) := by rw [hp]; exact l1
          have e5 : wr.cell? ⟨1, i * 4 + r, none⟩ = some (.int .u8 (q : Nat)) := by rw [hq]; exact l2
          have e2 : wr.cell? ⟨g, a, none⟩ = some (.int .u8 (s : Nat)) := by
            rw [cell_of_row wr _ _ _ _ _ H7.out.1.2]; simpa using hs.out r hr
          obtain ⟨x, hx⟩ : ∃ x, x = X r i := ⟨_, rfl⟩
          obtain ⟨y, hy⟩ : ∃ y, y = Y r i := ⟨_, rfl⟩
          have K1 := hide (cX.out i r hli hlt)
          have K2 := hide (cY.out i r hli hlt)
          rw [← hp, ← hx] at K1
          rw [← hq, ← hy] at K2
          have HX := hide hx
          have HY := hide hy
          have j1 : (i : Int) < 4 := by omega
          have j2 : (r : Int) < 4 := by omega
          have c1 : wr.cell? ⟨n, i, none⟩ = some (.int .u8 (upto i (X r) i : Nat)) := row_cell H7.out.2.1 i hli
          have f1 : wr.frozen? ⟨n, i, none⟩ = false := frozen_of_row wr _ _ _ _ H7.out.2.1
          have c2 : ∀ u, (wr.setCell ⟨n, i, none⟩ u).cell? ⟨n + 1, i, none⟩ = some (.int .u8 (upto i (Y r) i : Nat)) := fun u => far (row_cell H7.out.2.2 i hli) (by show n + 1 ≠ n; omega)
          have f2 : ∀ u, (wr.setCell ⟨n, i, none⟩ u).frozen? ⟨n + 1, i, none⟩ = false := fun u => frozen_of_row _ _ _ _ _ ((heap_setCell_other _ _ _ _ (by simp)).trans H7.out.2.2)
          have c5 : ∀ u, (wr.setCell ⟨n, i, none⟩ u).cell? ⟨1, i * 4 + r, none⟩ = some (.int .u8 (q : Nat)) := fun u => far e5 (by show 1 ≠ n; omega)
          clear hp hq hx hy l1 l2 e5
          go_wp2_with fail
          refine wp_region_held_drew (S := fun w' => w'.cell? ⟨0, i * 4 + r, none⟩ = some (.int .u8 (p : Nat)) ∧ w'.cell? ⟨g, a, none⟩ = some (.int .u8 (s : Nat))) (by kernel_rfl) ?_ (fun hHeld => ?_)
          · exact ⟨e1, e2⟩
          refine wpAnyH_take (i := 0) (v := ?_) rfl (by kernel_rfl) (by kernel_rfl) (by kernel_rfl) (fun _ _ _ h => h) (Or.inl ⟨by rfl, ?_⟩) (by assumption) ?_
          rotate_left
          · (intro w hSw; (try dsimp only at hSw); simp only [List.getElem_toArray, List.getElem_cons_zero]; go_simp; try with_reducible rfl)
          simp only [Act.put, List.getElem_toArray, List.getElem_cons_zero, List.setIfInBounds_toArray, List.set_cons_zero, List.set_cons_succ]
          refine wpAnyH_take (i := 1) (v := ?_) rfl (by kernel_rfl) (by kernel_rfl) (by kernel_rfl) (fun _ _ _ h => h) (Or.inl ⟨by rfl, ?_⟩) (by assumption) ?_
          rotate_left
          · (intro w hSw; (try dsimp only at hSw); simp only [List.getElem_toArray, List.getElem_cons_succ, List.getElem_cons_zero]; go_simp; try with_reducible rfl)
          simp only [Act.put, List.getElem_toArray, List.getElem_cons_succ, List.getElem_cons_zero, List.setIfInBounds_toArray, List.set_cons_zero, List.set_cons_succ]
          refine wpAnyH_take (i := 2) (v := ?_) rfl (by kernel_rfl) (by kernel_rfl) (by kernel_rfl) (fun _ _ _ h => h) (Or.inl ⟨by rfl, ?_⟩) (by assumption) ?_
          rotate_left
          · (intro w hSw; (try dsimp only at hSw); simp only [List.getElem_toArray, List.getElem_cons_succ, List.getElem_cons_zero]; go_simp; try with_reducible rfl)
          simp only [Act.put, List.getElem_toArray, List.getElem_cons_succ, List.getElem_cons_zero, List.setIfInBounds_toArray, List.set_cons_zero, List.set_cons_succ]
          refine wpAnyH_take (i := 3) (v := ?_) rfl (by kernel_rfl) (by kernel_rfl) (by kernel_rfl) (fun _ _ _ h => h) (Or.inl ⟨by rfl, ?_⟩) (by assumption) ?_
          rotate_left
          · (intro w hSw; (try dsimp only at hSw); simp only [List.getElem_toArray, List.getElem_cons_succ, List.getElem_cons_zero]; go_simp; try with_reducible rfl)
          simp only [Act.put, List.getElem_toArray, List.getElem_cons_succ, List.getElem_cons_zero, List.setIfInBounds_toArray, List.set_cons_zero, List.set_cons_succ]
          refine wpAnyH_take (i := 4) (v := ?_) rfl (by kernel_rfl) (by kernel_rfl) (by kernel_rfl) (fun _ _ _ h => h) (Or.inl ⟨by rfl, ?_⟩) (by assumption) ?_
          rotate_left
          · (intro w hSw; (try dsimp only at hSw); simp only [List.getElem_toArray, List.getElem_cons_succ, List.getElem_cons_zero]; go_simp; try with_reducible rfl)
          simp only [Act.put, List.getElem_toArray, List.getElem_cons_succ, List.getElem_cons_zero, List.setIfInBounds_toArray, List.set_cons_zero, List.set_cons_succ]
          refine wpAnyH_take (i := 5) (v := ?_) rfl (by kernel_rfl) (by kernel_rfl) (by kernel_rfl) (fun _ _ _ h => h) (Or.inl ⟨by rfl, ?_⟩) (by assumption) ?_
          rotate_left
          · (intro w hSw; (try dsimp only at hSw); simp only [List.getElem_toArray, List.getElem_cons_succ, List.getElem_cons_zero]; go_simp; try with_reducible rfl)
          simp only [Act.put, List.getElem_toArray, List.getElem_cons_succ, List.getElem_cons_zero, List.setIfInBounds_toArray, List.set_cons_zero, List.set_cons_succ]
          refine wpAnyH_take (i := 6) (v := ?_) rfl (by kernel_rfl) (by kernel_rfl) (by kernel_rfl) (fun _ _ _ h => h) (Or.inl ⟨by rfl, ?_⟩) (by assumption) ?_
          rotate_left
          · (intro w hSw; (try dsimp only at hSw); simp only [List.getElem_toArray, List.getElem_cons_succ, List.getElem_cons_zero]; go_simp; try with_reducible rfl)
          simp only [Act.put, List.getElem_toArray, List.getElem_cons_succ, List.getElem_cons_zero, List.setIfInBounds_toArray, List.set_cons_zero, List.set_cons_succ]
          refine wpAnyH_take (i := 7) (v := ?_) rfl (by kernel_rfl) (by kernel_rfl) (by kernel_rfl) (fun _ _ _ h => h) (Or.inl ⟨by rfl, ?_⟩) (by assumption) ?_
          rotate_left
          · (intro w hSw; (try dsimp only at hSw); simp only [List.getElem_toArray, List.getElem_cons_succ, List.getElem_cons_zero]; go_simp; try with_reducible rfl)
          simp only [Act.put, List.getElem_toArray, List.getElem_cons_succ, List.getElem_cons_zero, List.setIfInBounds_toArray, List.set_cons_zero, List.set_cons_succ]
          refine wpAnyH_take (i := 8) (v := ?_) rfl (by kernel_rfl) (by kernel_rfl) (by kernel_rfl) (fun _ _ _ h => h) (Or.inl ⟨by rfl, ?_⟩) (by assumption) ?_
          rotate_left
          · (intro w hSw; (try dsimp only at hSw); simp only [List.getElem_toArray, List.getElem_cons_succ, List.getElem_cons_zero]; go_simp; try with_reducible rfl)
          simp only [Act.put, List.getElem_toArray, List.getElem_cons_succ, List.getElem_cons_zero, List.setIfInBounds_toArray, List.set_cons_zero, List.set_cons_succ]
          refine wpAnyH_take (i := 9) (v := ?_) rfl (by kernel_rfl) (by kernel_rfl) (by kernel_rfl) (fun _ _ _ h => h) (Or.inl ⟨by rfl, ?_⟩) (by assumption) ?_
          rotate_left
          · (intro w hSw; (try dsimp only at hSw); simp only [List.getElem_toArray, List.getElem_cons_succ, List.getElem_cons_zero]; go_simp; try with_reducible rfl)
          simp only [Act.put, List.getElem_toArray, List.getElem_cons_succ, List.getElem_cons_zero, List.setIfInBounds_toArray, List.set_cons_zero, List.set_cons_succ]
          refine wpAnyH_take (i := 10) (v := ?_) rfl (by kernel_rfl) (by kernel_rfl) (by kernel_rfl) (fun _ _ _ h => h) (Or.inl ⟨by rfl, ?_⟩) (by assumption) ?_
          rotate_left
          · (intro w hSw; (try dsimp only at hSw); simp only [List.getElem_toArray, List.getElem_cons_succ, List.getElem_cons_zero]; go_simp; try with_reducible rfl)
          simp only [Act.put, List.getElem_toArray, List.getElem_cons_succ, List.getElem_cons_zero, List.setIfInBounds_toArray, List.set_cons_zero, List.set_cons_succ]
          refine wpAnyH_take (i := 11) (v := ?_) rfl (by kernel_rfl) (by kernel_rfl) (by kernel_rfl) (fun _ _ _ h => h) (Or.inl ⟨by rfl, ?_⟩) (by assumption) ?_
          rotate_left
          · (intro w hSw; (try dsimp only at hSw); simp only [List.getElem_toArray, List.getElem_cons_succ, List.getElem_cons_zero]; go_simp; try with_reducible rfl)
          simp only [Act.put, List.getElem_toArray, List.getElem_cons_succ, List.getElem_cons_zero, List.setIfInBounds_toArray, List.set_cons_zero, List.set_cons_succ]
          refine wpAnyH_ready (rs := [12]) (by kernel_rfl) (by simp) ?_
          refine AllReadyH.cons rfl (fun K hK => ?_) AllReadyH.nil
          simp only [List.getElem_toArray, List.getElem_cons_succ, List.getElem_cons_zero]
          go_simp
          refine (K1.out _).mono ?_
          rintro e w9 ⟨rfl, rfl⟩
          refine hK.out _ _ ?_ (fun hHeld => ?_)
          · exact hHeld
          clear hK K
          try simp only [Act.put, List.setIfInBounds_toArray, List.set_cons_zero, List.set_cons_succ]
          refine wpAnyH_take (i := 13) (v := ?_) rfl (by kernel_rfl) (by kernel_rfl) (by kernel_rfl) (fun _ _ _ h => h) (Or.inl ⟨by rfl, ?_⟩) (by assumption) ?_
          rotate_left
          · (intro w hSw; (try dsimp only at hSw); simp only [List.getElem_toArray, List.getElem_cons_succ, List.getElem_cons_zero]; go_simp; try with_reducible rfl)
          simp only [Act.put, List.getElem_toArray, List.getElem_cons_succ, List.getElem_cons_zero, List.setIfInBounds_toArray, List.set_cons_zero, List.set_cons_succ]
          refine wpAnyH_ready (rs := [14]) (by kernel_rfl) (by simp) ?_
          refine AllReadyH.cons rfl (fun K hK => ?_) AllReadyH.nil
          simp only [List.getElem_toArray, List.getElem_cons_succ, List.getElem_cons_zero]
          go_simp
          refine hK.out _ _ ?_ (fun hHeld => ?_)
          · exact ⟨far hHeld.1 (by show 0 ≠ n; omega), far hHeld.2 (by show g ≠ n; omega)⟩
          clear hK K
          try simp only [Act.put, List.setIfInBounds_toArray, List.set_cons_zero, List.set_cons_succ]
          refine wpAnyH_done (by kernel_rfl) ?_ _
          go_wp2_with fail
          refine (K2.out _).mono ?_
          rintro e w9 ⟨rfl, rfl⟩
          go_wp2
          go_roundw
          case rel =>
            obtain ⟨⟨hb, h1⟩, h2, h3⟩ := H7.out
            refine ⟨i + 1, by omega, by go_num, ⟨((hb.setCell (by show g ≤ n; omega) _).setCell (by show g ≤ n + 1; omega) _).drew, ?_⟩, ?_, ?_⟩
            · show ((wr.setCell _ _).setCell _ _).heap[g]? = _
              rw [heap_setCell_other _ _ _ _ (by show g ≠ n + 1; omega), heap_setCell_other _ _ _ _ (by show g ≠ n; omega)]; exact h1
            · show ((wr.setCell _ _).setCell _ _).heap[n]? = _
              rw [heap_setCell_other _ _ _ _ (by show n ≠ n + 1; omega), heap_setCell_same _ _ _ _ _ _ h2, List.setIfInBounds_toArray, HX.out, upto_set]
            · show ((wr.setCell _ _).setCell _ _).heap[n + 1]? = _
              have h3' : (wr.setCell ⟨n, i, none⟩ (.int .u8 (x : Nat))).heap[n + 1]? = some (.cells (bc 4 (upto i (Y r))).toArray 62 (0, 0)) := by
                rw [heap_setCell_other _ _ _ _ (by show n + 1 ≠ n; omega)]; exact h3
              rw [heap_setCell_same _ _ _ _ _ _ h3', List.setIfInBounds_toArray, HY.out, upto_set]
          case measure => simp [intOf]; omega
        · obtain rfl : i = 4 := by omega
          rw [upto_all, upto_all] at H7
          have j2 : (r : Int) < 4 := by omega
          clear hs laid cX cY
          go_wp2_with fail
          refine wp_region_held_drew (S := fun _ => True) (by kernel_rfl) ?_ (fun hHeld => ?_)
          · trivial
          refine wpAnyH_take (i := 0) (v := ?_) rfl (by kernel_rfl) (by kernel_rfl) (by kernel_rfl) (fun _ _ _ h => h) (Or.inl ⟨by rfl, ?_⟩) (by assumption) ?_
          rotate_left
          · (intro w hSw; (try dsimp only at hSw); simp only [List.getElem_toArray, List.getElem_cons_zero]; go_simp; try with_reducible rfl)
          simp only [Act.put, List.getElem_toArray, List.getElem_cons_zero, List.setIfInBounds_toArray, List.set_cons_zero, List.set_cons_succ]
          refine wpAnyH_take (i := 1) (v := ?_) rfl (by kernel_rfl) (by kernel_rfl) (by kernel_rfl) (fun _ _ _ h => h) (Or.inl ⟨by rfl, ?_⟩) (by assumption) ?_
          rotate_left
          · (intro w hSw; (try dsimp only at hSw); simp only [List.getElem_toArray, List.getElem_cons_succ, List.getElem_cons_zero]; go_simp; try with_reducible rfl)
          simp only [Act.put, List.getElem_toArray, List.getElem_cons_succ, List.getElem_cons_zero, List.setIfInBounds_toArray, List.set_cons_zero, List.set_cons_succ]
          refine wpAnyH_take (i := 2) (v := ?_) rfl (by kernel_rfl) (by kernel_rfl) (by kernel_rfl) (fun _ _ _ h => h) (Or.inl ⟨by rfl, ?_⟩) (by assumption) ?_
          rotate_left
          · (intro w hSw; (try dsimp only at hSw); simp only [List.getElem_toArray, List.getElem_cons_succ, List.getElem_cons_zero]; go_simp; try with_reducible rfl)
          simp only [Act.put, List.getElem_toArray, List.getElem_cons_succ, List.getElem_cons_zero, List.setIfInBounds_toArray, List.set_cons_zero, List.set_cons_succ]
          refine wpAnyH_take (i := 3) (v := ?_) rfl (by kernel_rfl) (by kernel_rfl) (by kernel_rfl) (fun _ _ _ h => h) (Or.inl ⟨by rfl, ?_⟩) (by assumption) ?_
          rotate_left
          · (intro w hSw; (try dsimp only at hSw); simp only [List.getElem_toArray, List.getElem_cons_succ, List.getElem_cons_zero]; go_simp; try with_reducible rfl)
          simp only [Act.put, List.getElem_toArray, List.getElem_cons_succ, List.getElem_cons_zero, List.setIfInBounds_toArray, List.set_cons_zero, List.set_cons_succ]
          refine wpAnyH_take (i := 4) (v := ?_) rfl (by kernel_rfl) (by kernel_rfl) (by kernel_rfl) (fun _ _ _ h => h) (Or.inl ⟨by rfl, ?_⟩) (by assumption) ?_
          rotate_left
          · (intro w hSw; (try dsimp only at hSw); simp only [List.getElem_toArray, List.getElem_cons_succ, List.getElem_cons_zero]; go_simp; try with_reducible rfl)
          simp only [Act.put, List.getElem_toArray, List.getElem_cons_succ, List.getElem_cons_zero, List.setIfInBounds_toArray, List.set_cons_zero, List.set_cons_succ]
          refine wpAnyH_take (i := 5) (v := ?_) rfl (by kernel_rfl) (by kernel_rfl) (by kernel_rfl) (fun _ _ _ h => h) (Or.inl ⟨by rfl, ?_⟩) (by assumption) ?_
          rotate_left
          · (intro w hSw; (try dsimp only at hSw); simp only [List.getElem_toArray, List.getElem_cons_succ, List.getElem_cons_zero]; go_simp; try with_reducible rfl)
          simp only [Act.put, List.getElem_toArray, List.getElem_cons_succ, List.getElem_cons_zero, List.setIfInBounds_toArray, List.set_cons_zero, List.set_cons_succ]
          refine wpAnyH_take (i := 6) (v := ?_) rfl (by kernel_rfl) (by kernel_rfl) (by kernel_rfl) (fun _ _ _ h => h) (Or.inl ⟨by rfl, ?_⟩) (by assumption) ?_
          rotate_left
          · (intro w hSw; (try dsimp only at hSw); simp only [List.getElem_toArray, List.getElem_cons_succ, List.getElem_cons_zero]; go_simp; try with_reducible rfl)
          simp only [Act.put, List.getElem_toArray, List.getElem_cons_succ, List.getElem_cons_zero, List.setIfInBounds_toArray, List.set_cons_zero, List.set_cons_succ]
          refine wpAnyH_take (i := 8) (v := ?_) rfl (by kernel_rfl) (by kernel_rfl) (by kernel_rfl) (fun _ _ _ h => h) (Or.inl ⟨by rfl, ?_⟩) (by assumption) ?_
          rotate_left
          · (intro w hSw; (try dsimp only at hSw); simp only [List.getElem_toArray, List.getElem_cons_succ, List.getElem_cons_zero]; go_simp; try with_reducible rfl)
          simp only [Act.put, List.getElem_toArray, List.getElem_cons_succ, List.getElem_cons_zero, List.setIfInBounds_toArray, List.set_cons_zero, List.set_cons_succ]
          refine wpAnyH_take (i := 10) (v := ?_) rfl (by kernel_rfl) (by kernel_rfl) (by kernel_rfl) (fun _ _ _ h => h) (Or.inl ⟨by rfl, ?_⟩) (by assumption) ?_
          rotate_left
          · (intro w hSw; (try dsimp only at hSw); simp only [List.getElem_toArray, List.getElem_cons_succ, List.getElem_cons_zero]; go_simp; try with_reducible rfl)
          simp only [Act.put, List.getElem_toArray, List.getElem_cons_succ, List.getElem_cons_zero, List.setIfInBounds_toArray, List.set_cons_zero, List.set_cons_succ]
          refine wpAnyH_take (i := 11) (v := ?_) rfl (by kernel_rfl) (by kernel_rfl) (by kernel_rfl) (fun _ _ _ h => h) (Or.inl ⟨by rfl, ?_⟩) (by assumption) ?_
          rotate_left
          · (intro w hSw; (try dsimp only at hSw); simp only [List.getElem_toArray, List.getElem_cons_succ, List.getElem_cons_zero]; go_simp; try with_reducible rfl)
          simp only [Act.put, List.getElem_toArray, List.getElem_cons_succ, List.getElem_cons_zero, List.setIfInBounds_toArray, List.set_cons_zero, List.set_cons_succ]
          refine wpAnyH_take (i := 12) (v := ?_) rfl (by kernel_rfl) (by kernel_rfl) (by kernel_rfl) (fun _ _ _ h => h) (Or.inl ⟨by rfl, ?_⟩) (by assumption) ?_
          rotate_left
          · (intro w hSw; (try dsimp only at hSw); simp only [List.getElem_toArray, List.getElem_cons_succ, List.getElem_cons_zero]; go_simp; try with_reducible rfl)
          simp only [Act.put, List.getElem_toArray, List.getElem_cons_succ, List.getElem_cons_zero, List.setIfInBounds_toArray, List.set_cons_zero, List.set_cons_succ]
          refine wpAnyH_take (i := 15) (v := ?_) rfl (by kernel_rfl) (by kernel_rfl) (by kernel_rfl) (fun _ _ _ h => h) (Or.inl ⟨by rfl, ?_⟩) (by assumption) ?_
          rotate_left
          · (intro w hSw; (try dsimp only at hSw); simp only [List.getElem_toArray, List.getElem_cons_succ, List.getElem_cons_zero]; go_simp; try with_reducible rfl)
          simp only [Act.put, List.getElem_toArray, List.getElem_cons_succ, List.getElem_cons_zero, List.setIfInBounds_toArray, List.set_cons_zero, List.set_cons_succ]
          refine wpAnyH_take (i := 16) (v := ?_) rfl (by kernel_rfl) (by kernel_rfl) (by kernel_rfl) (fun _ _ _ h => h) (Or.inl ⟨by rfl, ?_⟩) (by assumption) ?_
          rotate_left
          · (intro w hSw; (try dsimp only at hSw); simp only [List.getElem_toArray, List.getElem_cons_succ, List.getElem_cons_zero]; go_simp; try with_reducible rfl)
          simp only [Act.put, List.getElem_toArray, List.getElem_cons_succ, List.getElem_cons_zero, List.setIfInBounds_toArray, List.set_cons_zero, List.set_cons_succ]
          refine wpAnyH_take (i := 17) (v := ?_) rfl (by kernel_rfl) (by kernel_rfl) (by kernel_rfl) (fun _ _ _ h => h) (Or.inl ⟨by rfl, ?_⟩) (by assumption) ?_
          rotate_left
          · (intro w hSw; (try dsimp only at hSw); simp only [List.getElem_toArray, List.getElem_cons_succ, List.getElem_cons_zero]; go_simp; try with_reducible rfl)
          simp only [Act.put, List.getElem_toArray, List.getElem_cons_succ, List.getElem_cons_zero, List.setIfInBounds_toArray, List.set_cons_zero, List.set_cons_succ]
          refine wpAnyH_ready (rs := [7]) (by kernel_rfl) (by simp) ?_
          refine AllReadyH.cons rfl (fun K hK => ?_) AllReadyH.nil
          simp only [List.getElem_toArray, List.getElem_cons_succ, List.getElem_cons_zero]
          go_simp
          refine (cW.out r hlt wr.drew n H7.out.2.1).mono ?_
          rintro e w8 ⟨rfl, b8⟩
          refine hK.out _ _ ?_ (fun hHeld => ?_)
          · trivial
          clear hK K
          try simp only [Act.put, List.setIfInBounds_toArray, List.set_cons_zero, List.set_cons_succ]
          refine wpAnyH_ready (rs := [9]) (by kernel_rfl) (by simp) ?_
          refine AllReadyH.cons rfl (fun K hK => ?_) AllReadyH.nil
          simp only [List.getElem_toArray, List.getElem_cons_succ, List.getElem_cons_zero]
          go_simp
          refine (cV.out r hlt w8 (n + 1) ((b8.block _ (Array.getElem?_eq_some_iff.1 H7.out.2.2).1).trans H7.out.2.2)).mono ?_
          rintro e w9 ⟨rfl, b9⟩
          have hg9 : w9.heap[g]? = some (.cells (T r).toArray 77 (0, 0)) := by
            have hb := below_two b8 b9
            exact (hb.block g (Array.getElem?_eq_some_iff.1 H7.out.1.2).1).trans H7.out.1.2
          have HB9 := hide ((H7.out.1.1.drew).trans ((below_two b8 b9).mono (show g ≤ wr.drew.heap.size from Nat.le_of_lt (Array.getElem?_eq_some_iff.1 H7.out.1.2).1)))
          clear b8 b9
          obtain ⟨v1, hv1⟩ : ∃ v, (T r)[512 + r * 256 + a]? = some v := ⟨_, List.getElem?_eq_getElem (by rw [HL.out]; omega)⟩
          obtain ⟨v2, hv2⟩ : ∃ v, (T r)[1536 + r * 256 + a]? = some v := ⟨_, List.getElem?_eq_getElem (by rw [HL.out]; omega)⟩
          have c1 : w9.cell? ⟨g, 512 + r * 256 + a, none⟩ = some v1 := by rw [cell_of_row w9 _ _ _ _ _ hg9]; simpa using hv1
          have f1 : w9.frozen? ⟨g, 512 + r * 256 + a, none⟩ = false := frozen_of_row w9 _ _ _ _ hg9
          have c2 : ∀ u, (w9.setCell ⟨g, 512 + r * 256 + a, none⟩ u).cell? ⟨g, 1536 + r * 256 + a, none⟩ = some v2 := fun u => by
            rw [cell_of_row _ _ _ _ _ _ (cell_set_row w9 g _ (T r) _ u hg9)]
            simp [hv2, show 512 + r * 256 + a ≠ 1536 + r * 256 + a by omega]
          have f2 : ∀ u, (w9.setCell ⟨g, 512 + r * 256 + a, none⟩ u).frozen? ⟨g, 1536 + r * 256 + a, none⟩ = false := fun u => frozen_of_row _ _ _ _ _ (cell_set_row w9 g _ (T r) _ u hg9)
          have HG9 := hide hg9
          clear hv1 hv2 hg9
          refine hK.out _ _ ?_ (fun hHeld => ?_)
          · trivial
          clear hK K
          try simp only [Act.put, List.setIfInBounds_toArray, List.set_cons_zero, List.set_cons_succ]
          refine wpAnyH_take (i := 13) (v := ?_) rfl (by kernel_rfl) (by kernel_rfl) (by kernel_rfl) (fun _ _ _ h => h) (Or.inl ⟨by rfl, ?_⟩) (by assumption) ?_
          rotate_left
          · (intro w hSw; (try dsimp only at hSw); simp only [List.getElem_toArray, List.getElem_cons_succ, List.getElem_cons_zero]; go_simp; try with_reducible rfl)
          simp only [Act.put, List.getElem_toArray, List.getElem_cons_succ, List.getElem_cons_zero, List.setIfInBounds_toArray, List.set_cons_zero, List.set_cons_succ]
          refine wpAnyH_ready (rs := [14]) (by kernel_rfl) (by simp) ?_
          refine AllReadyH.cons rfl (fun K hK => ?_) AllReadyH.nil
          simp only [List.getElem_toArray, List.getElem_cons_succ, List.getElem_cons_zero]
          go_simp
          refine hK.out _ _ ?_ (fun hHeld => ?_)
          · trivial
          clear hK K
          try simp only [Act.put, List.setIfInBounds_toArray, List.set_cons_zero, List.set_cons_succ]
          refine wpAnyH_take (i := 18) (v := ?_) rfl (by kernel_rfl) (by kernel_rfl) (by kernel_rfl) (fun _ _ _ h => h) (Or.inl ⟨by rfl, ?_⟩) (by assumption) ?_
          rotate_left
          · (intro w hSw; (try dsimp only at hSw); simp only [List.getElem_toArray, List.getElem_cons_succ, List.getElem_cons_zero]; go_simp; try with_reducible rfl)
          simp only [Act.put, List.getElem_toArray, List.getElem_cons_succ, List.getElem_cons_zero, List.setIfInBounds_toArray, List.set_cons_zero, List.set_cons_succ]
          refine wpAnyH_ready (rs := [19]) (by kernel_rfl) (by simp) ?_
          refine AllReadyH.cons rfl (fun K hK => ?_) AllReadyH.nil
          simp only [List.getElem_toArray, List.getElem_cons_succ, List.getElem_cons_zero]
          go_simp
          refine hK.out _ _ ?_ (fun hHeld => ?_)
          · trivial
          clear hK K
          try simp only [Act.put, List.setIfInBounds_toArray, List.set_cons_zero, List.set_cons_succ]
          refine wpAnyH_done (by kernel_rfl) ?_ _
          go_wp2
          go_roundw
          case rel =>
            refine ⟨r + 1, by omega, by go_num, ?_, ?_⟩
            · exact ((HB9.out.setCell (Nat.le_refl _) _).setCell (Nat.le_refl _) _)
            · rw [← hT.out r hlt]
              exact cell_set_row _ _ _ _ _ _ (cell_set_row w9 g _ (T r) _ _ HG9.out)
          case measure => simp [intOf]; omega
    · obtain rfl : r = 4 := by omega
      go_wp2
      go_end0
      exact ⟨rfl, HR.out.2, HR.out.1⟩
end Go.Proofs.YtdfbcdgneboilaaDoor
namespace Go.Proofs.YtdfbcdgneboilaaDoor
open Go.ChangeShapes Go.WideShapes Go.ChangeAt Go.RowKit
set_option maxRecDepth 20000

/-! Four bytes as a number. -/
theorem isB_bc (w : World) (n : Nat) (f : Nat → Nat) (hf : Byt f) (t : TypeId) (h : w.heap[n]? = some (.cells (bc 4 f).toArray t (0, 0))) : IsB w (.slice (some ⟨n, 0, none⟩) 4 4) (toB 4 f) := by
  refine ⟨by rw [toB_len]; decide, _, 4, by rw [toB_len], .inr ⟨n, 0, rfl, fun i hi => ?_⟩⟩
  rw [toB_len] at hi
  rw [Nat.zero_add, row_cell h i hi]
  have := toB_get 4 f hf i hi
  unfold lf at this
  rw [this]
theorem num_wd (f : Nat → Nat) (hf : Byt f) : num (toB 4 f) 0 4 = wd f := by
  have b : ∀ k : Nat, k < 4 → byteAt (toB 4 f) (0 + (k : Int)) = f k := fun k hk => by
    rw [byteAt_in _ _ (by omega) (by rw [toB_len]; omega)]
    have := toB_get 4 f hf k hk
    unfold lf at this
    rw [show (0 + (k : Int)).toNat = k by omega]
    exact this
  have e : num (toB 4 f) 0 4 = 0 + byteAt (toB 4 f) (0 + ((0 : Nat) : Int)) * 2 ^ (8 * 0) + byteAt (toB 4 f) (0 + ((1 : Nat) : Int)) * 2 ^ (8 * 1) + byteAt (toB 4 f) (0 + ((2 : Nat) : Int)) * 2 ^ (8 * 2) + byteAt (toB 4 f) (0 + ((3 : Nat) : Int)) * 2 ^ (8 * 3) := rfl
  rw [e, b 0 (by decide), b 1 (by decide), b 2 (by decide), b 3 (by decide)]
  unfold wd
  omega
theorem word_bc (f : Nat → Nat) (hf : Byt f) (w : World) (n : Nat) (t : TypeId) (h : w.heap[n]? = some (.cells (bc 4 f).toArray t (0, 0))) :
    Calls Tryd.prog 48 #[.slice (some ⟨n, 0, none⟩) 4 4, .int .i64 0] w fun e w' => e = .returned (.int .u32 (wd f : Nat)) ∧ Below w.heap.size w w' := by
  have := word_any _ _ 0 w (isB_bc w n f hf t h)
  rw [num_wd f hf] at this
  exact this

/-! The tables' cells. -/
def fin (j : Nat) : Value := if j < 256 then .int .u8 (sbox j : Nat) else if j < 512 then .int .u8 (isb (j - 256) : Nat) else if j < 1536 then .int .u32 (tw mixM ((j - 512) / 256) (sbox (j % 256)) : Nat) else .int .u32 (tw unM ((j - 1536) / 256) (j % 256) : Nat)
def zer (j : Nat) : Value := if j < 512 then .int .u8 0 else .int .u32 0
/-- All of the bytes below k. -/
def tl0 (F Z : Nat → Value) (k : Nat) : List Value := (List.range 2560).map fun j => if j % 256 < k then F j else Z j
/-- And of k the boxes and the rows below r. -/
def tl1 (F Z : Nat → Value) (k r : Nat) : List Value := (List.range 2560).map fun j => if j % 256 < k ∨ (j % 256 = k ∧ (j < 512 ∨ (j - 512) / 256 % 4 < r)) then F j else Z j
theorem map_set {n i : Nat} {v : Value} {F G : Nat → Value} (h : G i = v) (h' : ∀ j, j < n → j ≠ i → F j = G j) : ((List.range n).map F).set i v = (List.range n).map G := by
  apply List.ext_getElem
  · rw [List.length_set, List.length_map, List.length_map]
  · intro j h1 h2
    rw [List.length_map, List.length_range] at h2
    rw [List.getElem_set]
    simp only [List.getElem_map, List.getElem_range]
    by_cases e : i = j
    · rw [if_pos e, ← e, h]
    · rw [if_neg e, h' j h2 (Ne.symm e)]
theorem tl0_len (F Z : Nat → Value) (k : Nat) : (tl0 F Z k).length = 2560 := by unfold tl0; rw [List.length_map, List.length_range]
theorem tl1_len (F Z : Nat → Value) (k r : Nat) : (tl1 F Z k r).length = 2560 := by unfold tl1; rw [List.length_map, List.length_range]
theorem tl_first (F Z : Nat → Value) (a : Nat) (ha : a < 256) : ((tl0 F Z a).set a (F a)).set (256 + a) (F (256 + a)) = tl1 F Z a 0 := by
  unfold tl0 tl1
  rw [map_set (G := fun j => if j % 256 < a ∨ j = a then F j else Z j) (if_pos (.inr rfl)) (fun j _ hj => by simp [hj]),
    map_set (G := fun j => if j % 256 < a ∨ (j % 256 = a ∧ (j < 512 ∨ (j - 512) / 256 % 4 < 0)) then F j else Z j) (if_pos (.inr ⟨by omega, .inl (by omega)⟩)) ?_]
  intro j _ hj
  by_cases h : j % 256 < a ∨ j = a
  · rw [if_pos h, if_pos]
    rcases h with h | h
    · exact .inl h
    · exact .inr ⟨by omega, .inl (by omega)⟩
  · rw [if_neg h, if_neg]
    rintro (h' | ⟨h1, h2 | h2⟩)
    · exact h (.inl h')
    · exact h (.inr (by omega))
    · omega
theorem tl_next (F Z : Nat → Value) (a r : Nat) (ha : a < 256) (hr : r < 4) : ((tl1 F Z a r).set (512 + r * 256 + a) (F (512 + r * 256 + a))).set (1536 + r * 256 + a) (F (1536 + r * 256 + a)) = tl1 F Z a (r + 1) := by
  unfold tl1
  rw [map_set (G := fun j => if j % 256 < a ∨ (j % 256 = a ∧ (j < 512 ∨ (j - 512) / 256 % 4 < r)) ∨ j = 512 + r * 256 + a then F j else Z j) (if_pos (.inr (.inr rfl))) (fun j _ hj => by simp [hj]),
    map_set (G := fun j => if j % 256 < a ∨ (j % 256 = a ∧ (j < 512 ∨ (j - 512) / 256 % 4 < r + 1)) then F j else Z j) (if_pos (.inr ⟨by omega, .inr (by omega)⟩)) ?_]
  intro j hj2 hj
  by_cases h : j % 256 < a ∨ (j % 256 = a ∧ (j < 512 ∨ (j - 512) / 256 % 4 < r)) ∨ j = 512 + r * 256 + a
  · rw [if_pos h, if_pos]
    omega
  · rw [if_neg h, if_neg]
    omega
theorem tl_last (F Z : Nat → Value) (a : Nat) : tl1 F Z a 4 = tl0 F Z (a + 1) := by
  unfold tl0 tl1
  refine List.map_congr_left fun j _ => ?_
  by_cases h : j % 256 < a + 1
  · rw [if_pos h, if_pos (by omega)]
  · rw [if_neg h, if_neg (by omega)]
theorem tl1_get (F Z : Nat → Value) (a r : Nat) (ha : a < 256) : (tl1 F Z a r)[a]? = some (F a) := by
  unfold tl1
  rw [List.getElem?_map, List.getElem?_range (by omega)]
  simp only [Option.map_some]
  rw [if_pos (.inr ⟨by omega, .inl (by omega)⟩)]
theorem tl0_get (F Z : Nat → Value) (j : Nat) (hj : j < 2560) : (tl0 F Z 256)[j]? = some (F j) := by
  unfold tl0
  rw [List.getElem?_map, List.getElem?_range hj]
  simp only [Option.map_some]
  rw [if_pos (by omega)]
theorem tl0_zero (F : Nat → Value) : tl0 F zer 0 = List.replicate 512 (.int .u8 0) ++ List.replicate 2048 (.int .u32 0) := by
  apply List.ext_getElem
  · rw [tl0_len, List.length_append, List.length_replicate, List.length_replicate]
  · intro j h1 h2
    rw [tl0_len] at h1
    simp only [tl0, List.getElem_map, List.getElem_range, Nat.not_lt_zero, if_false, zer]
    by_cases h : j < 512
    · rw [if_pos h, List.getElem_append_left (by rw [List.length_replicate]; exact h), List.getElem_replicate]
    · rw [if_neg h, List.getElem_append_right (by rw [List.length_replicate]; omega), List.getElem_replicate]
theorem zero_tabs (w : World) : (zeroValue 77).run Tryd.prog w = .ok (.agg (List.replicate 512 (Value.int .u8 0) ++ List.replicate 2048 (Value.int .u32 0)).toArray) w := by kernel_rfl

/-- The two tables of coefficients lie as the program's text lays them. -/
def Laid (w : World) : Prop := ∀ i r, i < 4 → r < 4 → w.cell? ⟨0, i * 4 + r, none⟩ = some (.int .u8 (mixM i r : Nat)) ∧ w.cell? ⟨1, i * 4 + r, none⟩ = some (.int .u8 (unM i r : Nat))
theorem Laid.size {w : World} (h : Laid w) : 1 < w.heap.size := World.block_lt_of_cell? _ _ (h 0 0 (by decide) (by decide)).2
theorem Laid.below {w w' : World} {B : Nat} (h : Laid w) (hB : 1 < B) (hb : Below B w w') : Laid w' := fun i r hi hr =>
  ⟨(hb.cell (p := ⟨0, i * 4 + r, none⟩) (by show 0 < B; omega)).trans (h i r hi hr).1, (hb.cell (p := ⟨1, i * 4 + r, none⟩) hB).trans (h i r hi hr).2⟩
theorem Laid.later {w w' : World} (h : Laid w) (hb : Below w.heap.size w w') : Laid w' := h.below h.size hb

theorem tput_any (g gb a : Nat) (w : World) (ha : a < 256) (hl : Laid w) (hg1 : 1 < g) (hb : IsBoxes w gb) (hg : w.heap[g]? = some (.cells (tl0 fin zer a).toArray 77 (0, 0))) :
    Calls Tryd.prog 40 #[.pointer (some ⟨g, 0, none⟩), .int .u8 (a : Nat), .pointer (some ⟨gb, 0, none⟩)] w fun e w' => e = .returned (.tuple #[]) ∧ w'.heap[g]? = some (.cells (tl0 fin zer (a + 1)).toArray 77 (0, 0)) ∧ Below g w w' := by
  have ba := sbox_lt a ha
  have f0 : fin a = .int .u8 (sbox a : Nat) := by unfold fin; rw [if_pos ha]
  have f1 : fin (256 + a) = .int .u8 (isb a : Nat) := by unfold fin; rw [if_neg (by omega), if_pos (by omega), show 256 + a - 256 = a by omega]
  have f2 : ∀ r, r < 4 → fin (512 + r * 256 + a) = .int .u32 (tw mixM r (sbox a) : Nat) := fun r hr => by
    unfold fin; rw [if_neg (by omega), if_neg (by omega), if_pos (by omega), show (512 + r * 256 + a - 512) / 256 = r by omega, show (512 + r * 256 + a) % 256 = a by omega]
  have f3 : ∀ r, r < 4 → fin (1536 + r * 256 + a) = .int .u32 (tw unM r a : Nat) := fun r hr => by
    unfold fin; rw [if_neg (by omega), if_neg (by omega), if_neg (by omega), show (1536 + r * 256 + a - 1536) / 256 = r by omega, show (1536 + r * 256 + a) % 256 = a by omega]
  have X : ∀ (M : Nat → Nat → Nat) (hM : ∀ i r, i < 4 → r < 4 → M i r < 256) (x r : Nat), r < 4 → Byt fun i => if i < 4 then times (M i r) x else 0 := fun M hM x r hr i => by
    show (if i < 4 then times (M i r) x else 0) < 256
    by_cases h : i < 4
    · rw [if_pos h]; exact times_lt _ _ (hM i r h hr)
    · rw [if_neg h]; decide
  have W : ∀ (M : Nat → Nat → Nat) (hM : ∀ i r, i < 4 → r < 4 → M i r < 256) (x r : Nat), r < 4 → ∀ (w : World) (n : Nat), w.heap[n]? = some (.cells (bc 4 fun i => times (M i r) x).toArray 62 (0, 0)) → Calls Tryd.prog 48 #[.slice (some ⟨n, 0, none⟩) 4 4, .int .i64 0] w fun e w' => e = .returned (.int .u32 (tw M r x : Nat)) ∧ Below w.heap.size w w' := by
    intro M hM x r hr w n hn
    have e : bc 4 (fun i => times (M i r) x) = bc 4 fun i => if i < 4 then times (M i r) x else 0 := bc_congr fun i hi => by rw [if_pos hi]
    rw [e] at hn
    have := word_bc _ (X M hM x r hr) w n _ hn
    have e2 : wd (fun i => if i < 4 then times (M i r) x else 0) = tw M r x := rfl
    rw [e2] at this
    exact this
  have := tput_core g gb a (sbox a) (isb a) (tl0 fin zer a) (tl1 fin zer a) mixM unM (fun r i => times (mixM i r) (sbox a)) (fun r i => times (unM i r) a) (fun r => tw mixM r (sbox a)) (fun r => tw unM r a) w ha hg1 hg (tl0_len _ _ _) (fun r => tl1_len _ _ _ r)
    (by rw [← f0, ← f1]; exact tl_first fin zer a ha) (fun r _ => by rw [← f0]; exact tl1_get fin zer a r ha) (fun r hr => by rw [← f2 r hr, ← f3 r hr]; exact tl_next fin zer a r ha hr)
    (to_box gb a ha w.drew hb) (back_box gb a ha w.drew hb) (fun w' hb' i r hi hr => hl.below hg1 hb' i r hi hr)
    (fun i r hi hr w => times_any _ _ (mixM_lt i r hi hr) ba w) (fun i r hi hr w => times_any _ _ (unM_lt i r hi hr) ha w)
    (fun r hr w n hn => W mixM (fun i r hi hr => mixM_lt i r hi hr) (sbox a) r hr w n hn) (fun r hr w n hn => W unM (fun i r hi hr => unM_lt i r hi hr) a r hr w n hn)
  rw [tl_last] at this
  exact this

/-- What a world holds at g: the tables. -/
def IsTab (w : World) (g : Nat) : Prop := g < w.heap.size ∧ ∀ j, j < 2560 → w.cell? ⟨g, j, none⟩ = some (fin j)
theorem IsTab.later {w w' : World} {g : Nat} (h : IsTab w g) (hb : Below w.heap.size w w') : IsTab w' g :=
  ⟨Nat.lt_of_lt_of_le h.1 hb.size, fun j hj => (hb.cell h.1).trans (h.2 j hj)⟩
theorem IsTab.lt {w : World} {g : Nat} (h : IsTab w g) : g < w.heap.size := h.1
theorem IsTab.cell {w : World} {g : Nat} (h : IsTab w g) (j : Nat) (hj : j < 2560) : w.cell? ⟨g, j, none⟩ = some (fin j) := h.2 j hj
theorem IsTab.of {w : World} {g : Nat} (h : w.heap[g]? = some (.cells (tl0 fin zer 256).toArray 77 (0, 0))) : IsTab w g :=
  ⟨(Array.getElem?_eq_some_iff.1 h).1, fun j hj => by rw [cell_of_row w g _ _ _ _ h]; simpa using tl0_get fin zer j hj⟩
theorem IsTab.box {w : World} {g : Nat} (h : IsTab w g) (a : Nat) (ha : a < 256) : w.cell? ⟨g, a, none⟩ = some (.int .u8 (sbox a : Nat)) := by
  rw [h.cell a (by omega)]; unfold fin; rw [if_pos ha]
theorem IsTab.back {w : World} {g : Nat} (h : IsTab w g) (a : Nat) (ha : a < 256) : w.cell? ⟨g, 256 + a, none⟩ = some (.int .u8 (isb a : Nat)) := by
  rw [h.cell (256 + a) (by omega)]; unfold fin; rw [if_neg (by omega), if_pos (by omega), show 256 + a - 256 = a by omega]
theorem IsTab.mix {w : World} {g : Nat} (h : IsTab w g) (r a : Nat) (hr : r < 4) (ha : a < 256) : w.cell? ⟨g, 512 + r * 256 + a, none⟩ = some (.int .u32 (tw mixM r (sbox a) : Nat)) := by
  rw [h.cell _ (by omega)]; unfold fin; rw [if_neg (by omega), if_neg (by omega), if_pos (by omega), show (512 + r * 256 + a - 512) / 256 = r by omega, show (512 + r * 256 + a) % 256 = a by omega]
theorem IsTab.unmix {w : World} {g : Nat} (h : IsTab w g) (r a : Nat) (hr : r < 4) (ha : a < 256) : w.cell? ⟨g, 1536 + r * 256 + a, none⟩ = some (.int .u32 (tw unM r a : Nat)) := by
  rw [h.cell _ (by omega)]; unfold fin; rw [if_neg (by omega), if_neg (by omega), if_neg (by omega), show (1536 + r * 256 + a - 1536) / 256 = r by omega, show (1536 + r * 256 + a) % 256 = a by omega]

theorem new_nil (w : World) : Calls Tryd.prog 24 #[.pointer none] w fun e w' => e = .returned (.pointer none) ∧ w' = w := by
  go_enter Tryd.func24, Tryd.ntmps24
  go_wp2
  go_ret
  exact ⟨rfl, rfl⟩
set_option maxRecDepth 100000 in
set_option maxHeartbeats 1600000 in
theorem new_core (gb : Nat) (T : Nat → List Value) (w : World) (hz : ∀ w, (zeroValue 77).run Tryd.prog w = .ok (.agg (T 0).toArray) w)
    (cP : Hid (∀ (a : Nat) w', a < 256 → Below w.heap.size w w' → w'.heap[w.heap.size]? = some (.cells (T a).toArray 77 (0, 0)) → Calls Tryd.prog 40 #[.pointer (some ⟨w.heap.size, 0, none⟩), .int .u8 (a : Nat), .pointer (some ⟨gb, 0, none⟩)] w' fun e w'' => e = .returned (.tuple #[]) ∧ w''.heap[w.heap.size]? = some (.cells (T (a + 1)).toArray 77 (0, 0)) ∧ Below w.heap.size w' w'')) :
    Calls Tryd.prog 24 #[.pointer (some ⟨gb, 0, none⟩)] w fun e w' => e = .returned (.pointer (some ⟨w.heap.size, 0, none⟩)) ∧ w'.heap[w.heap.size]? = some (.cells (T 256).toArray 77 (0, 0)) ∧ Below w.heap.size w w' := by
  obtain ⟨Z, hZ⟩ : ∃ Z, Z = (T 0).toArray := ⟨_, rfl⟩
  rw [← hZ] at hz
  have HZ := hide hZ
  clear hZ
  go_enter Tryd.func24, Tryd.ntmps24
  go_wp2
  clear hz
  go_loopw [9] (fun i wr => ∃ a : Nat, a ≤ 256 ∧ i = .int .i64 a ∧ Hid (Below w.heap.size w wr ∧ wr.heap[w.heap.size]? = some (.cells (T a).toArray 77 (0, 0)))) (fun i _ => 256 - (intOf i).toNat)
  case atStart =>
    refine ⟨0, by omega, rfl, below_alloc (Below.refl _ _) _, ?_⟩
    rw [← HZ.out]; exact heap_alloc_new _ _
  case round =>
    obtain ⟨a, ha, rfl, HR⟩ := hrel
    by_cases hlt : a < 256
    · have K1 := hide (cP.out a wr hlt HR.out.1 HR.out.2)
      have HW : IntKind.u8.wrap (a : Int) = a := by rw [IntKind.wrap_u8]; omega
      go_wp2_with fail
      try rw [HW]
      refine (K1.out).mono ?_
      rintro e w9 ⟨rfl, h9, b9⟩
      have H9 := hide h9
      have B9 := hide b9
      clear h9 b9
      go_wp2
      go_roundw
      case rel => exact ⟨a + 1, by omega, by go_num, HR.out.1.trans B9.out, H9.out⟩
      case measure => simp [intOf]; omega
    · obtain rfl : a = 256 := by omega
      go_wp2
      go_ret
      exact ⟨rfl, HR.out.2, HR.out.1⟩
theorem new_any (gb : Nat) (w : World) (hb : IsBoxes w gb) (hl : Laid w) : Calls Tryd.prog 24 #[.pointer (some ⟨gb, 0, none⟩)] w fun e w' => e = .returned (.pointer (some ⟨w.heap.size, 0, none⟩)) ∧ w'.heap[w.heap.size]? = some (.cells (tl0 fin zer 256).toArray 77 (0, 0)) ∧ Below w.heap.size w w' :=
  new_core gb (tl0 fin zer) w (fun w => by show _ = Result.ok (Value.agg (tl0 fin zer 0).toArray) w; rw [tl0_zero]; exact zero_tabs w) fun a w' ha hb' hg => tput_any w.heap.size gb a w' ha (hl.later hb') hl.size (hb.later hb') hg
end Go.Proofs.YtdfbcdgneboilaaDoor
namespace Go.Proofs.YtdfbcdgneboilaaDoor
open Go.ChangeShapes Go.WideShapes Go.ChangeAt Go.RowKit
set_option maxRecDepth 20000

/-- A block, as a value. -/
def blkV (f : Nat → Nat) : Value := .agg (bc 16 f).toArray
theorem blkV_congr {f g : Nat → Nat} (h : ∀ i, i < 16 → f i = g i) : blkV f = blkV g := by unfold blkV; rw [bc_congr h]
theorem round_any (g : Nat) (f k : Nat → Nat) (hf : Byt f) (hk : Byt k) (w : World) (ht : IsTab w g) :
    Calls Tryd.prog 50 #[.pointer (some ⟨g, 0, none⟩), blkV f, blkV k] w fun e w' => e = .returned (blkV (rnd f k)) ∧ Below w.heap.size w w' :=
  round_core g f k (rnd f k) (fun r a => tw mixM r (sbox a)) (fun n i => n / 256 ^ i % 256) w hf hk (fun n i => Nat.mod_lt _ (by decide)) (fun r a hr _ => tw_lt _ _ _ fun i hi => mixM_lt i r hi hr)
    (fun w' hb r a hr ha => (ht.later hb).mix r a hr ha) (fun n hn w => put4 n hn w)
    (fun c r hc hr => by
      have e := col_byte mixM (fun r => sbox (f (shf c r))) (fun i r hi hr => mixM_lt i r hi hr) r hr
      unfold rnd
      rw [(quad c r hr).1, (quad c r hr).2]
      exact congrArg (· ^^^ k (4 * c + r)) e)
theorem last_any (g : Nat) (f k : Nat → Nat) (hf : Byt f) (hk : Byt k) (w : World) (ht : IsTab w g) :
    Calls Tryd.prog 33 #[.pointer (some ⟨g, 0, none⟩), blkV f, blkV k] w fun e w' => e = .returned (blkV (lst f k)) ∧ Below w.heap.size w w' :=
  last_core g f k (lst f k) sbox w hf hk sbox_lt ht.lt (fun w' hb a ha => (ht.later hb).box a ha)
    (fun c r hc hr => by unfold lst shi; rw [(quad c r hr).1, (quad c r hr).2])
theorem unlast_any (g : Nat) (f k : Nat → Nat) (hf : Byt f) (hk : Byt k) (w : World) (ht : IsTab w g) :
    Calls Tryd.prog 38 #[.pointer (some ⟨g, 0, none⟩), blkV f, blkV k] w fun e w' => e = .returned (blkV (unl f k)) ∧ Below w.heap.size w w' :=
  unlast_core g f k (unl f k) isb w hf hk ht.lt (fun w' hb a ha => (ht.later hb).back a ha)
    (fun c r hc hr => by unfold unl; rw [shb_shf c r hc hr])
theorem unround_any (g : Nat) (f k : Nat → Nat) (hf : Byt f) (hk : Byt k) (w : World) (ht : IsTab w g) :
    Calls Tryd.prog 39 #[.pointer (some ⟨g, 0, none⟩), blkV f, blkV k] w fun e w' => e = .returned (blkV (unr f k)) ∧ Below w.heap.size w w' :=
  unround_core g f k (umx f k) (unr f k) (fun r a => tw unM r a) (fun n i => n / 256 ^ i % 256) w hf hk (fun r a hr _ => tw_lt _ _ _ fun i hi => unM_lt i r hi hr)
    (fun w' hb r a hr ha => (ht.later hb).unmix r a hr ha) (fun n hn w => put4 n hn w)
    (fun c i hc hi => by
      have e := col_byte unM (fun r => f (4 * c + r) ^^^ k (4 * c + r)) (fun i r hi hr => unM_lt i r hi hr) i hi
      unfold umx
      rw [(quad c i hi).1, (quad c i hi).2]
      exact e)
    (fun w' hb => unlast_any g (umx f k) (fun _ => 0) (umx_byt f k) zero_byt w' (ht.later hb))
theorem box_any (g a : Nat) (ha : a < 256) (w : World) (ht : IsTab w g) : Calls Tryd.prog 75 #[.pointer (some ⟨g, 0, none⟩), .int .u8 (a : Nat)] w fun e w' => e = .returned (.int .u8 (sbox a : Nat)) ∧ w' = w := by
  have hc := ht.box a ha
  obtain ⟨x, hx⟩ : ∃ x, x = sbox a := ⟨_, rfl⟩
  rw [← hx] at hc ⊢
  clear hx ht
  have i1 : (a : Int) < 256 := by omega
  go_enter Tryd.func75, Tryd.ntmps75
  go_wp2
  go_ret
  exact ⟨rfl, rfl⟩
end Go.Proofs.YtdfbcdgneboilaaDoor
namespace Go.Proofs.YtdfbcdgneboilaaDoor
open Go.ChangeShapes Go.WideShapes Go.ChangeAt Go.RowKit
set_option maxRecDepth 20000

/-- A row of n keys in the world. -/
def IsK (w : World) (v : Value) (n : Nat) (ks : Nat → Nat → Nat) : Prop :=
  (∀ i, Byt (ks i)) ∧ ∃ (a : Option Addr) (cap : Nat), v = .slice a n cap ∧ (n = 0 ∨ ∃ b off : Nat, a = some ⟨b, off, none⟩ ∧ ∀ i, i < n → w.rangeAt b (off + i * 16) (bc 16 (ks i)))
theorem IsK.later {w w' : World} {v : Value} {n : Nat} {ks : Nat → Nat → Nat} (h : IsK w v n ks) (hb : Below w.heap.size w w') : IsK w' v n ks := by
  obtain ⟨h0, a, cap, e, h2⟩ := h
  refine ⟨h0, a, cap, e, ?_⟩
  rcases h2 with h2 | ⟨b, off, ea, hc⟩
  · exact .inl h2
  · exact .inr ⟨b, off, ea, fun i hi j u hj => Go.Proofs.YtdfbcdgneboilaaDoor.later hb (hc i hi j u hj)⟩
def rnds (f : Nat → Nat) (ks : Nat → Nat → Nat) : Nat → Nat → Nat
  | 0 => f
  | i + 1 => rnd (rnds f ks i) (ks i)
theorem rnds_byt {f : Nat → Nat} {ks : Nat → Nat → Nat} (hf : Byt f) (hk : ∀ i, Byt (ks i)) : ∀ n, Byt (rnds f ks n)
  | 0 => hf
  | n + 1 => rnd_byt (hk n)

set_option maxRecDepth 100000 in
set_option maxHeartbeats 4000000 in
theorem rounds_core (g n cap : Nat) (a : Option Addr) (F K : Nat → List Value) (w : World) (hF : ∀ i, (F i).length = 16) (hK : ∀ i, (K i).length = 16) (oF : Hid (∀ i, (F i).toArray.all (·.oneCell') = true)) (oK : Hid (∀ i, (K i).toArray.all (·.oneCell') = true)) (hn : Hid (n ≤ 100))
    (hk : Hid (n = 0 ∨ ∃ b off : Nat, a = some ⟨b, off, none⟩ ∧ ∀ i, i < n → ∀ w', Below w.heap.size w w' → w'.rangeAt b (off + i * 16) (K i)))
    (cR : Hid (∀ i, i < n → ∀ w', Below w.heap.size w w' → Calls Tryd.prog 50 #[.pointer (some ⟨g, 0, none⟩), .agg (F i).toArray, .agg (K i).toArray] w' fun e w'' => e = .returned (.agg (F (i + 1)).toArray) ∧ Below w'.heap.size w' w'')) :
    Calls Tryd.prog 32 #[.pointer (some ⟨g, 0, none⟩), .agg (F 0).toArray, .slice a n cap] w fun e w' => e = .returned (.agg (F n).toArray) ∧ Below w.heap.size w w' := by
  obtain ⟨Z, hZ⟩ : ∃ Z, Z = bc 16 (fun _ => 0) := ⟨_, rfl⟩
  have hz := zero16
  rw [← hZ] at hz
  have hZl : Z.toArray.size = 16 := by rw [hZ, List.size_toArray, bc_len]
  clear hZ
  obtain ⟨F0, hF0⟩ : ∃ F0, F0 = F 0 := ⟨_, rfl⟩
  rw [← hF0]
  have HF0 := hide hF0
  have HF := hide hF
  have HK := hide hK
  clear hF0 hF hK
  go_enter Tryd.func32, Tryd.ntmps32
  go_wp2
  go_loopw [14] (fun i wr => ∃ k : Nat, k ≤ n ∧ i = .int .i64 k ∧ Hid (Below w.heap.size w wr ∧ wr.heap[w.heap.size]? = some (.cells (F k).toArray 45 (0, 0)) ∧ wr.heap[w.heap.size + 1]? = some (.cells Z.toArray 45 (0, 0)))) (fun i _ => n - (intOf i).toNat)
  case atStart =>
    refine ⟨0, by omega, rfl, below_alloc (below_alloc (Below.refl _ _) _) _, ?_, heap_alloc2_new _ _ _⟩
    rw [← HF0.out]; exact heap_alloc2_old _ _ _
  case round =>
    obtain ⟨k, hkn, rfl, HR⟩ := hrel
    by_cases hlt : k < n
    · obtain ⟨b, off, rfl, hrow⟩ : ∃ b off : Nat, a = some ⟨b, off, none⟩ ∧ ∀ i, i < n → ∀ w', Below w.heap.size w w' → w'.rangeAt b (off + i * 16) (K i) := hk.out.resolve_left (by omega)
      have r1 := hide (hrow k hlt wr HR.out.1)
      obtain ⟨A, hA⟩ : ∃ A, A = K k := ⟨_, rfl⟩
      obtain ⟨B, hB⟩ : ∃ B, B = F k := ⟨_, rfl⟩
      obtain ⟨C, hC⟩ : ∃ C, C = F (k + 1) := ⟨_, rfl⟩
      have lA : A.length = 16 := by rw [hA]; exact HK.out k
      have lB : B.length = 16 := by rw [hB]; exact HF.out k
      have lC : C.length = 16 := by rw [hC]; exact HF.out (k + 1)
      have oA : Hid (A.toArray.all (·.oneCell') = true) := by rw [hA]; exact oK.out k
      have oC : Hid (C.toArray.all (·.oneCell') = true) := by rw [hC]; exact oF.out (k + 1)
      have sA : A.toArray.size = 16 := by rw [List.size_toArray]; exact lA
      have sB : B.toArray.size = 16 := by rw [List.size_toArray]; exact lB
      have sC : C.toArray.size = 16 := by rw [List.size_toArray]; exact lC
      have iA : (Tryd.prog.info? 45).map (·.size) = some A.length := by rw [lA]; rfl
      obtain ⟨nb, nr⟩ := new_row wr Z.toArray A.toArray 45
      have K1 := hide (cR.out k hlt _ (below_two HR.out.1 nb))
      rw [← hA, ← hB, ← hC] at K1
      rw [← hA] at r1
      have HB := HR.out.2.1
      rw [← hB] at HB
      have NR := hide nr
      have NB := hide nb
      have R2 : Hid (((wr.alloc (.cells Z.toArray 45)).setRow wr.heap.size A.toArray).heap[w.heap.size]? = some (.cells B.toArray 45 (0, 0))) := (nb.block _ (Array.getElem?_eq_some_iff.1 HB).1).trans HB
      have i1 : (k : Int) < n := by omega
      have HC := hide hC
      clear hA hB hC lA lB lC nb nr HB hrow
      go_wp2_with (first
        | (refine wpList_load_mid rfl 45 _ rfl b (off + k * 16) rfl A _ r1.out Tryd.underlying45 rfl iA ?_)
        | (refine wpList_store_row rfl 45 _ _ rfl wr.heap.size A.toArray rfl rfl 45 _ (heap_alloc_new _ _) (by rw [sA]; rfl) (by rw [sA, hZl]) oA.out ?_)
        | (refine wpList_load_row rfl 45 _ rfl w.heap.size rfl 45 B.toArray (0, 0) _ R2.out Tryd.underlying45 rfl (by rw [sB]; rfl) ?_)
        | (refine wpList_load_row rfl 45 _ rfl wr.heap.size rfl 45 A.toArray (0, 0) _ NR.out Tryd.underlying45 rfl (by rw [sA]; rfl) ?_))
      refine (K1.out).mono ?_
      rintro e w9 ⟨rfl, b9⟩
      have R9 : Hid (w9.heap[w.heap.size]? = some (.cells B.toArray 45 (0, 0))) := (b9.block _ (Array.getElem?_eq_some_iff.1 R2.out).1).trans R2.out
      have B9 := hide (below_two NB.out b9)
      clear b9 K1 R2 NR NB r1
      have i3 : k < 100 := by have := hn.out; omega
      go_wp2_with (refine wpList_store_row rfl 45 _ _ rfl w.heap.size C.toArray rfl rfl 45 B.toArray R9.out (by rw [sC]; rfl) (by rw [sC, sB]) oC.out ?_)
      go_roundw
      case rel =>
        refine ⟨k + 1, by omega, by go_num, below_setRow (below_two HR.out.1 B9.out) (Nat.le_refl _) _, ?_, ?_⟩
        · rw [← HC.out]; exact setRow_heap _ _ _ _ _ _ R9.out
        · exact (setRow_other _ _ _ _ (by omega)).trans ((B9.out.block _ (Array.getElem?_eq_some_iff.1 HR.out.2.2).1).trans HR.out.2.2)
      case measure => simp [intOf]; omega
    · obtain rfl : k = n := by omega
      obtain ⟨V, hV⟩ : ∃ V, V = (F k).toArray := ⟨_, rfl⟩
      have hVl : V.size = 16 := by rw [hV, List.size_toArray, HF.out]
      have hV1 : Hid (V.all (·.oneCell') = true) := by rw [hV]; exact oF.out k
      have HV := hide hV
      have R2 : Hid (wr.heap[w.heap.size]? = some (.cells V 45 (0, 0))) := by rw [hV]; exact HR.out.2.1
      have R1 : Hid (wr.heap[w.heap.size + 1]? = some (.cells Z.toArray 45 (0, 0))) := HR.out.2.2
      clear hV
      go_wp2_with (first
        | (refine wpList_load_row rfl 45 _ rfl w.heap.size rfl 45 V (0, 0) _ R2.out Tryd.underlying45 rfl (by rw [hVl]; rfl) ?_)
        | (refine wpList_store_row rfl 45 _ _ rfl (w.heap.size + 1) V rfl rfl 45 Z.toArray R1.out (by rw [hVl]; rfl) (by rw [hZl, hVl]) hV1.out ?_))
      refine bodyPost_ret (v := .agg V) (results_cell_row rfl _ _ (w.heap.size + 1) 45 V (0, 0) _ rfl (setRow_heap _ _ _ _ _ _ R1.out) Tryd.underlying45 rfl (by rw [hVl]; rfl)) rfl ⟨by rw [HV.out], ?_⟩
      exact below_setRow HR.out.1 (by omega) _
theorem rounds_any (g n : Nat) (v : Value) (f : Nat → Nat) (ks : Nat → Nat → Nat) (hf : Byt f) (h1 : n ≤ 100) (w : World) (ht : IsTab w g) (hk : IsK w v n ks) :
    Calls Tryd.prog 32 #[.pointer (some ⟨g, 0, none⟩), blkV f, v] w fun e w' => e = .returned (blkV (rnds f ks n)) ∧ Below w.heap.size w w' := by
  obtain ⟨h0, a, cap, rfl, h2⟩ := hk
  refine rounds_core g n cap a (fun i => bc 16 (rnds f ks i)) (fun i => bc 16 (ks i)) w (fun i => bc_len _ _) (fun i => bc_len _ _) (fun i => bc_one _ _) (fun i => bc_one _ _) h1 ?_ (fun i _ w' hb => round_any g (rnds f ks i) (ks i) (rnds_byt hf h0 i) (h0 i) w' (ht.later hb))
  rcases h2 with h2 | ⟨b, off, ea, hc⟩
  · exact .inl h2
  · exact .inr ⟨b, off, ea, fun i hi w' hb j u hj => Go.Proofs.YtdfbcdgneboilaaDoor.later hb (hc i hi j u hj)⟩
end Go.Proofs.YtdfbcdgneboilaaDoor
