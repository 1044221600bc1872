/- Proved here: for all numbers n, lo, hi OctetPuts returns true and leaves its arguments as they were (the bytes of any number are the reference's); no condition. -/
import Derived.Test.YtlcjkmgeaiclbaaRefPut
import Derived.Test.YtlcjkmgeaiclbaaBackLaw
namespace Go.Proofs.Ytlcjkmgeaiclbaa
open Go.ChangeShapes Go.WideShapes Go.ChangeAt Go.RowKit

theorem three_new (w : World) (A B C : Obj) : (((w.alloc A).alloc B).alloc C).heap[w.heap.size]? = some A ∧ (((w.alloc A).alloc B).alloc C).heap[w.heap.size + 1]? = some B ∧ (((w.alloc A).alloc B).alloc C).heap[w.heap.size + 1 + 1]? = some C := by
  refine ⟨?_, ?_, ?_⟩
  · rw [heap_alloc_old _ _ (by simp <;> omega), heap_alloc_old _ _ (by simp), heap_alloc_new]
  · rw [heap_alloc_old _ _ (by simp), show w.heap.size + 1 = (w.alloc A).heap.size from by simp, heap_alloc_new]
  · rw [show w.heap.size + 1 + 1 = ((w.alloc A).alloc B).heap.size from by simp, heap_alloc_new]
theorem three_rows (w2 : World) (Z4 Z8 Z16 : Array Value) (A4 A8 C : List Value) (t4 t8 t16 : TypeId) (h4 : Z4.size = A4.length) (h8 : Z8.size = A8.length) (hC : Z16.size = C.length) (o4 : ∀ v ∈ A4, v.oneCell' = true) (o8 : ∀ v ∈ A8, v.oneCell' = true) (oC : ∀ v ∈ C, v.oneCell' = true) :
    ∃ W3 W4 W5, (storeCells ⟨w2.heap.size, 0, none⟩ A4).run Try.prog (((w2.alloc (.cells Z4 t4)).alloc (.cells Z8 t8)).alloc (.cells Z16 t16)) = .ok () W3 ∧ (storeCells ⟨w2.heap.size + 1, 0, none⟩ A8).run Try.prog W3 = .ok () W4 ∧
      (storeCells ⟨w2.heap.size + 1 + 1, 0, none⟩ C).run Try.prog W4 = .ok () W5 ∧
      W5.heap[w2.heap.size]? = some (.cells A4.toArray t4 (0, 0)) ∧ W5.heap[w2.heap.size + 1]? = some (.cells A8.toArray t8 (0, 0)) ∧ W5.heap[w2.heap.size + 1 + 1]? = some (.cells C.toArray t16 (0, 0)) ∧ Below w2.heap.size w2 W5 := by
  have n1 : w2.heap.size + 1 ≠ w2.heap.size := by omega
  have n2 : w2.heap.size + 1 + 1 ≠ w2.heap.size := by omega
  have n3 : w2.heap.size + 1 + 1 ≠ w2.heap.size + 1 := by omega
  obtain ⟨r1, r2, r3⟩ := three_new w2 (.cells Z4 t4) (.cells Z8 t8) (.cells Z16 t16)
  have s3 := store_all _ _ _ A4 _ r1 h4 o4
  have r1' := setRow_heap _ _ _ A4.toArray _ _ r1
  have r2' := (setRow_other _ _ _ A4.toArray n1).trans r2
  have r3' := (setRow_other _ _ _ A4.toArray n2).trans r3
  have s4 := store_all _ _ _ A8 _ r2' h8 o8
  have p1 := (setRow_other _ _ _ A8.toArray n1.symm).trans r1'
  have p2 := setRow_heap _ _ _ A8.toArray _ _ r2'
  have p3 := (setRow_other _ _ _ A8.toArray n3).trans r3'
  have s5 := store_all _ _ _ C _ p3 hC oC
  refine ⟨_, _, _, s3, s4, s5, ?_, ?_, ?_, ?_⟩
  · exact (setRow_other _ _ _ _ n2.symm).trans p1
  · exact (setRow_other _ _ _ _ n3.symm).trans p2
  · exact setRow_heap _ _ _ _ _ _ p3
  · exact below_setRow (below_setRow (below_setRow (below_alloc (below_alloc (below_alloc (Below.refl _ _) _) _) _) (Nat.le_refl _) _) (by omega) _) (by omega) _
theorem grown_below {w w' : World} (h : Below w.heap.size w w') (row : Option Nat) : w.grownBy w' row := ⟨h.os, h.tape, h.output, h.size, fun k hk _ => h.block k hk⟩
set_option linter.unusedSimpArgs false in
set_option maxHeartbeats 4000000 in
theorem puts_core (n : Nat) (hn : n < 4294967296) (lo hi : Int) (A4 A8 C L H : List Value) (S4 S8 SC : ByteArray) (h4 : A4.length = 4) (h8 : A8.length = 8) (hC : C.length = 16) (hH : H.length = 8) (o4 : Hid (A4.toArray.all (·.oneCell') = true)) (o8 : Hid (A8.toArray.all (·.oneCell') = true)) (oC : Hid (C.toArray.all (·.oneCell') = true)) (oH : Hid (∀ v ∈ H, v.oneCell' = true)) (w : World)
    (cP4 : Hid (∀ w, Calls Try.prog 20 #[.int .u32 n] w fun e w' => e = .returned (.agg A4.toArray) ∧ Below w.heap.size w w'))
    (cP8 : Hid (∀ w, Calls Try.prog 21 #[.int .u64 lo] w fun e w' => e = .returned (.agg A8.toArray) ∧ Below w.heap.size w w'))
    (cBy : Hid (∀ w, Calls Try.prog 22 #[.agg #[.int .u64 lo, .int .u64 hi]] w fun e w' => e = .returned (.agg C.toArray) ∧ Below w.heap.size w w'))
    (cL : Hid (∀ w, Calls Try.prog 23 #[.int .u64 lo, .int .i64 8] w fun e w' => ∃ v, e = .returned v ∧ w'.ownsRow w.heap.size 5 1 v 8 L ∧ Below w.heap.size w w'))
    (cH : Hid (∀ w, Calls Try.prog 23 #[.int .u64 hi, .int .i64 8] w fun e w' => ∃ v, e = .returned v ∧ w'.ownsRow w.heap.size 5 1 v 8 H ∧ Below w.heap.size w w'))
    (cR4 : Hid (∀ w, Calls Try.prog 23 #[.int .u64 n, .int .i64 4] w fun e w' => ∃ r, e = .returned r ∧ (convert 22 9 r).run Try.prog w' = .ok (.string S4) w' ∧ Below w.heap.size w w'))
    (cR8 : Hid (∀ w, Calls Try.prog 23 #[.int .u64 lo, .int .i64 8] w fun e w' => ∃ r, e = .returned r ∧ (convert 22 9 r).run Try.prog w' = .ok (.string S8) w' ∧ Below w.heap.size w w'))
    (f4 : Hid (∀ (w : World) g, w.heap[g]? = some (.cells A4.toArray 36 (0, 0)) → (convert 22 9 (.slice (some ⟨g, 0, none⟩) 4 4)).run Try.prog w = .ok (.string S4) w))
    (f8 : Hid (∀ (w : World) g, w.heap[g]? = some (.cells A8.toArray 38 (0, 0)) → (convert 22 9 (.slice (some ⟨g, 0, none⟩) 8 8)).run Try.prog w = .ok (.string S8) w))
    (fC : Hid (∀ (w : World) g, w.heap[g]? = some (.cells C.toArray 27 (0, 0)) → (convert 22 9 (.slice (some ⟨g, 0, none⟩) 16 16)).run Try.prog w = .ok (.string SC) w))
    (fW : Hid (∀ (w : World) g cap (cur : Array Value), w.heap[g]? = some (.cells cur 5 (0, 0)) → cur.toList.take 16 = L ++ H → (convert 22 9 (.slice (some ⟨g, 0, none⟩) 16 cap)).run Try.prog w = .ok (.string SC) w)) :
    Calls Try.prog 4 #[.int .u32 n, .int .u64 lo, .int .u64 hi] w fun e w' => e = .returned (.bool true) ∧ Below w.heap.size w w' := by
  obtain ⟨i0, hi0, hz0, hz1, hz2⟩ : ∃ i, Try.prog.info? 5 = some i ∧ i.zero = some (.int .u8 0) ∧ i.size = 1 ∧ i.bytes = 1 := ⟨_, rfl, rfl, rfl, rfl⟩
  obtain ⟨Z0, hZ⟩ : ∃ Z0, Z0 = (bcells nought16).toArray := ⟨_, rfl⟩
  have hz : ∀ w, (zeroValue 27).run Try.prog w = .ok (.agg Z0) w := by rw [hZ]; exact zero16
  have hZl : Z0.size = 16 := by rw [hZ]; rfl
  clear hZ
  have HW : Hid (IntKind.u64.wrap (n : Int) = n) := by show _ = _; rw [IntKind.wrap_u64]; omega
  have HI := hide hi0
  clear hi0
  go_enter Try.func4, Try.ntmps4
  go_wp2_with fail
  refine (cP4.out _).mono ?_
  rintro e w1 ⟨rfl, b1⟩
  go_wp2_with fail
  refine (cP8.out _).mono ?_
  rintro e w2 ⟨rfl, b2⟩
  go_wp2_with fail
  refine (cBy.out _).mono ?_
  rintro e w3 ⟨rfl, b3⟩
  obtain ⟨W4, W5, W6, s4, s5, s6, k4, k8, kC, b6⟩ := three_rows w3 #[.int .u8 0, .int .u8 0, .int .u8 0, .int .u8 0] #[.int .u8 0, .int .u8 0, .int .u8 0, .int .u8 0, .int .u8 0, .int .u8 0, .int .u8 0, .int .u8 0] Z0 A4 A8 C 36 38 27 (by rw [h4]; rfl) (by rw [h8]; rfl) (by rw [hZl, hC]) (all_one o4.out) (all_one o8.out) (all_one oC.out)
  have K4 := hide k4
  have K8 := hide k8
  have KC := hide kC
  have B6 := hide (below_two (below_two (below_two b1 b2) b3) b6)
  clear k4 k8 kC b6 b1 b2 b3
  go_wp2_with fail
  refine (cL.out _).mono ?_
  rintro e w7 ⟨v1, rfl, own1, b7⟩
  have O1 := hide own1
  have B7 := hide b7
  clear own1 b7 s4 s5 s6 hz
  go_wp2_with fail
  refine (cH.out _).mono ?_
  rintro e w8 ⟨v2, rfl, own2, b8⟩
  have O3 : Hid (w8.ownsRow W6.heap.size 5 1 v1 8 L) := O1.out.kept (grown_below b8 none) (by cases hv : v1.ownBlock <;> simp)
  rcases own2.2 with ⟨_, h0⟩ | ⟨g2, cap2, cur2, rfl, hg2, hc2, _, _, hs2, ht2⟩
  · omega
  have hcell : Hid (∀ j u, H[j]? = some u → w8.cell? (Addr.add ⟨g2, 0, none⟩ j) = some u) := fun j u hj => by
    rw [addr_add, cell_of_row w8 g2 _ _ _ _ hc2, ← hj, ← ht2]
    have hj8 : j < 8 := by rw [← hH]; exact (List.getElem?_eq_some_iff.1 hj).1
    rw [List.getElem?_take_of_lt (by omega)]; simp
  have B8 := hide (below_two B7.out b8)
  clear own2 hc2 hs2 ht2 hg2 b8 O1 B7
  go_wp2_with (first
    | (at_builtin; refine wpList_append_own _ rfl _ _ 22 rfl W6.heap.size 5 i0 (.int .u8 0) 1 1 Try.underlying22 HI.out hz0 hz1 hz2 rfl (by decide) _ _ _ rfl O3.out ⟨g2, 0, none⟩ 8 cap2 H rfl hH hcell.out oH.out ?c3 ?c4 ?c5 ?_))
  case c3 => unfold maxLen; omega
  case c4 => omega
  case c5 => exact B8.out.size
  intro v' w9 own3 hgrow _
  have own4 : w9.ownsRow W6.heap.size 5 1 v' 16 (L ++ H) := own3
  have b9 : Below W6.heap.size W6 w9 := B8.out.grown hgrow B8.out.size (fun j hj => (O3.out.lt j hj).1)
  rcases own4.2 with ⟨_, h0⟩ | ⟨g9, cap9, cur9, rfl, hg9, hc9, _, _, hs9, ht9⟩
  · omega
  have keepAll : ∀ w' g o, Below w9.heap.size w9 w' → W6.heap[g]? = some o → w'.heap[g]? = some o := fun w' g o hb hg => by
    have hlt : g < W6.heap.size := (Array.getElem?_eq_some_iff.1 hg).1
    exact (hb.block g (Nat.lt_of_lt_of_le hlt b9.size)).trans ((b9.block g hlt).trans hg)
  have q4 : Hid (∀ w', Below w9.heap.size w9 w' → (convert 22 9 (.slice (some ⟨w3.heap.size, 0, none⟩) 4 4)).run Try.prog w' = .ok (.string S4) w') := fun w' hb => f4.out w' _ (keepAll w' _ _ hb K4.out)
  have q8 : Hid (∀ w', Below w9.heap.size w9 w' → (convert 22 9 (.slice (some ⟨w3.heap.size + 1, 0, none⟩) 8 8)).run Try.prog w' = .ok (.string S8) w') := fun w' hb => f8.out w' _ (keepAll w' _ _ hb K8.out)
  have qC : Hid (∀ w', Below w9.heap.size w9 w' → (convert 22 9 (.slice (some ⟨w3.heap.size + 1 + 1, 0, none⟩) 16 16)).run Try.prog w' = .ok (.string SC) w') := fun w' hb => fC.out w' _ (keepAll w' _ _ hb KC.out)
  have qW : Hid (∀ w', Below w9.heap.size w9 w' → (convert 22 9 (.slice (some ⟨g9, 0, none⟩) 16 cap9)).run Try.prog w' = .ok (.string SC) w') := fun w' hb => fW.out w' _ _ _ ((hb.block g9 (Array.getElem?_eq_some_iff.1 hc9).1).trans hc9) ht9
  have B9 := hide (below_two B6.out b9)
  clear own3 own4 hgrow b9 hg9 hc9 hs9 ht9 keepAll O3 hcell B8 K4 K8 KC B6 f4 f8 fC fW cP4 cP8 cBy cL cH
  go_wp2_with fail
  refine wp_region_held_drew (S := fun w' => Below w9.heap.size w9 w') (by kernel_rfl) ?_ (fun hHeld => ?_)
  · exact (Below.refl _ _).drew
  refine wpAnyH_take (i := 0) (v := ?_) rfl (by kernel_rfl) (by kernel_rfl) (by kernel_rfl) (fun _ _ _ h => h) (Or.inl ⟨by rfl, ?_⟩) (by assumption) ?_
  rotate_left
  · (intro w hSw; (try dsimp only at hSw); simp only [List.getElem_toArray, List.getElem_cons_zero]; go_simp; try with_reducible rfl)
  simp only [Act.put, List.getElem_toArray, List.getElem_cons_zero, List.setIfInBounds_toArray, List.set_cons_zero, List.set_cons_succ]
  refine wpAnyH_take (i := 1) (v := ?_) rfl (by kernel_rfl) (by kernel_rfl) (by kernel_rfl) (fun _ _ _ h => h) (Or.inl ⟨by rfl, ?_⟩) (by assumption) ?_
  rotate_left
  · (intro w hSw; (try dsimp only at hSw); have hq := q4.out w hSw; simp only [List.getElem_toArray, List.getElem_cons_succ, List.getElem_cons_zero]; go_simp; try with_reducible rfl)
  simp only [Act.put, List.getElem_toArray, List.getElem_cons_succ, List.getElem_cons_zero, List.setIfInBounds_toArray, List.set_cons_zero, List.set_cons_succ]
  refine wpAnyH_take (i := 2) (v := ?_) rfl (by kernel_rfl) (by kernel_rfl) (by kernel_rfl) (fun _ _ _ h => h) (Or.inl ⟨by rfl, ?_⟩) (by assumption) ?_
  rotate_left
  · (intro w hSw; (try dsimp only at hSw); simp only [List.getElem_toArray, List.getElem_cons_succ, List.getElem_cons_zero]; go_simp; try with_reducible rfl)
  simp only [Act.put, List.getElem_toArray, List.getElem_cons_succ, List.getElem_cons_zero, List.setIfInBounds_toArray, List.set_cons_zero, List.set_cons_succ]
  refine wpAnyH_take (i := 3) (v := ?_) rfl (by kernel_rfl) (by kernel_rfl) (by kernel_rfl) (fun _ _ _ h => h) (Or.inl ⟨by rfl, ?_⟩) (by assumption) ?_
  rotate_left
  · (intro w hSw; (try dsimp only at hSw); simp only [List.getElem_toArray, List.getElem_cons_succ, List.getElem_cons_zero]; go_simp; try with_reducible rfl)
  simp only [Act.put, List.getElem_toArray, List.getElem_cons_succ, List.getElem_cons_zero, List.setIfInBounds_toArray, List.set_cons_zero, List.set_cons_succ]
  rw [HW.out]
  refine wpAnyH_ready (rs := [4]) (by kernel_rfl) (by simp) ?_
  refine AllReadyH.cons rfl (fun K hK => ?_) AllReadyH.nil
  simp only [List.getElem_toArray, List.getElem_cons_succ, List.getElem_cons_zero]
  go_simp
  refine (cR4.out _).mono ?_; rintro e w' ⟨r, rfl, hcv, hb⟩
  go_wp2_with fail
  refine hK.out _ _ ?_ (fun hHeld => ?_)
  · exact below_two hHeld hb
  clear hK K hb
  try simp only [Act.put, List.setIfInBounds_toArray, List.set_cons_zero, List.set_cons_succ]
  refine wpAnyH_ready (rs := [5]) (by kernel_rfl) (by simp) ?_
  refine AllReadyH.cons rfl (fun K hK => ?_) AllReadyH.nil
  simp only [List.getElem_toArray, List.getElem_cons_succ, List.getElem_cons_zero]
  go_simp
  refine hK.out _ _ ?_ (fun hHeld => ?_)
  · exact hHeld
  clear hK K
  try simp only [Act.put, List.setIfInBounds_toArray, List.set_cons_zero, List.set_cons_succ]
  refine wpAnyH_take (i := 6) (v := ?_) rfl (by kernel_rfl) (by kernel_rfl) (by kernel_rfl) (fun _ _ _ h => h) (Or.inl ⟨by rfl, ?_⟩) (by assumption) ?_
  rotate_left
  · (intro w hSw; (try dsimp only at hSw); simp only [List.getElem_toArray, List.getElem_cons_succ, List.getElem_cons_zero]; go_simp; try with_reducible rfl)
  simp only [Act.put, List.getElem_toArray, List.getElem_cons_succ, List.getElem_cons_zero, List.setIfInBounds_toArray, List.set_cons_zero, List.set_cons_succ]
  refine wpAnyH_take (i := 7) (v := ?_) rfl (by kernel_rfl) (by kernel_rfl) (by kernel_rfl) (fun _ _ _ h => h) (Or.inl ⟨by rfl, ?_⟩) (by assumption) ?_
  rotate_left
  · (intro w hSw; (try dsimp only at hSw); simp only [List.getElem_toArray, List.getElem_cons_succ, List.getElem_cons_zero]; go_simp; try with_reducible rfl)
  simp only [Act.put, List.getElem_toArray, List.getElem_cons_succ, List.getElem_cons_zero, List.setIfInBounds_toArray, List.set_cons_zero, List.set_cons_succ]
  refine wpAnyH_take (i := 8) (v := ?_) rfl (by kernel_rfl) (by kernel_rfl) (by kernel_rfl) (fun _ _ _ h => h) (Or.inl ⟨by rfl, ?_⟩) (by assumption) ?_
  rotate_left
  · (intro w hSw; (try dsimp only at hSw); simp only [List.getElem_toArray, List.getElem_cons_succ, List.getElem_cons_zero]; go_simp; try with_reducible rfl)
  simp only [Act.put, List.getElem_toArray, List.getElem_cons_succ, List.getElem_cons_zero, List.setIfInBounds_toArray, List.set_cons_zero, List.set_cons_succ]
  refine wpAnyH_take (i := 9) (v := ?_) rfl (by kernel_rfl) (by kernel_rfl) (by kernel_rfl) (fun _ _ _ h => h) (Or.inl ⟨by rfl, ?_⟩) (by assumption) ?_
  rotate_left
  · (intro w hSw; (try dsimp only at hSw); have hq := q8.out w hSw; simp only [List.getElem_toArray, List.getElem_cons_succ, List.getElem_cons_zero]; go_simp; try with_reducible rfl)
  simp only [Act.put, List.getElem_toArray, List.getElem_cons_succ, List.getElem_cons_zero, List.setIfInBounds_toArray, List.set_cons_zero, List.set_cons_succ]
  refine wpAnyH_take (i := 10) (v := ?_) rfl (by kernel_rfl) (by kernel_rfl) (by kernel_rfl) (fun _ _ _ h => h) (Or.inl ⟨by rfl, ?_⟩) (by assumption) ?_
  rotate_left
  · (intro w hSw; (try dsimp only at hSw); simp only [List.getElem_toArray, List.getElem_cons_succ, List.getElem_cons_zero]; go_simp; try with_reducible rfl)
  simp only [Act.put, List.getElem_toArray, List.getElem_cons_succ, List.getElem_cons_zero, List.setIfInBounds_toArray, List.set_cons_zero, List.set_cons_succ]
  refine wpAnyH_ready (rs := [11]) (by kernel_rfl) (by simp) ?_
  refine AllReadyH.cons rfl (fun K hK => ?_) AllReadyH.nil
  simp only [List.getElem_toArray, List.getElem_cons_succ, List.getElem_cons_zero]
  go_simp
  refine (cR8.out _).mono ?_; rintro e w' ⟨r, rfl, hcv, hb⟩
  go_wp2_with fail
  refine hK.out _ _ ?_ (fun hHeld => ?_)
  · exact below_two hHeld hb
  clear hK K hb
  try simp only [Act.put, List.setIfInBounds_toArray, List.set_cons_zero, List.set_cons_succ]
  refine wpAnyH_ready (rs := [12]) (by kernel_rfl) (by simp) ?_
  refine AllReadyH.cons rfl (fun K hK => ?_) AllReadyH.nil
  simp only [List.getElem_toArray, List.getElem_cons_succ, List.getElem_cons_zero]
  go_simp
  refine hK.out _ _ ?_ (fun hHeld => ?_)
  · exact hHeld
  clear hK K
  try simp only [Act.put, List.setIfInBounds_toArray, List.set_cons_zero, List.set_cons_succ]
  refine wpAnyH_take (i := 13) (v := ?_) rfl (by kernel_rfl) (by kernel_rfl) (by kernel_rfl) (fun _ _ _ h => h) (Or.inl ⟨by rfl, ?_⟩) (by assumption) ?_
  rotate_left
  · (intro w hSw; (try dsimp only at hSw); simp only [List.getElem_toArray, List.getElem_cons_succ, List.getElem_cons_zero]; go_simp; try with_reducible rfl)
  simp only [Act.put, List.getElem_toArray, List.getElem_cons_succ, List.getElem_cons_zero, List.setIfInBounds_toArray, List.set_cons_zero, List.set_cons_succ]
  refine wpAnyH_take (i := 14) (v := ?_) rfl (by kernel_rfl) (by kernel_rfl) (by kernel_rfl) (fun _ _ _ h => h) (Or.inl ⟨by rfl, ?_⟩) (by assumption) ?_
  rotate_left
  · (intro w hSw; (try dsimp only at hSw); simp only [List.getElem_toArray, List.getElem_cons_succ, List.getElem_cons_zero]; go_simp; try with_reducible rfl)
  simp only [Act.put, List.getElem_toArray, List.getElem_cons_succ, List.getElem_cons_zero, List.setIfInBounds_toArray, List.set_cons_zero, List.set_cons_succ]
  refine wpAnyH_take (i := 15) (v := ?_) rfl (by kernel_rfl) (by kernel_rfl) (by kernel_rfl) (fun _ _ _ h => h) (Or.inl ⟨by rfl, ?_⟩) (by assumption) ?_
  rotate_left
  · (intro w hSw; (try dsimp only at hSw); simp only [List.getElem_toArray, List.getElem_cons_succ, List.getElem_cons_zero]; go_simp; try with_reducible rfl)
  simp only [Act.put, List.getElem_toArray, List.getElem_cons_succ, List.getElem_cons_zero, List.setIfInBounds_toArray, List.set_cons_zero, List.set_cons_succ]
  refine wpAnyH_take (i := 16) (v := ?_) rfl (by kernel_rfl) (by kernel_rfl) (by kernel_rfl) (fun _ _ _ h => h) (Or.inl ⟨by rfl, ?_⟩) (by assumption) ?_
  rotate_left
  · (intro w hSw; (try dsimp only at hSw); simp only [List.getElem_toArray, List.getElem_cons_succ, List.getElem_cons_zero]; go_simp; try with_reducible rfl)
  simp only [Act.put, List.getElem_toArray, List.getElem_cons_succ, List.getElem_cons_zero, List.setIfInBounds_toArray, List.set_cons_zero, List.set_cons_succ]
  refine wpAnyH_take (i := 17) (v := ?_) rfl (by kernel_rfl) (by kernel_rfl) (by kernel_rfl) (fun _ _ _ h => h) (Or.inl ⟨by rfl, ?_⟩) (by assumption) ?_
  rotate_left
  · (intro w hSw; (try dsimp only at hSw); have hq := qC.out w hSw; simp only [List.getElem_toArray, List.getElem_cons_succ, List.getElem_cons_zero]; go_simp; try with_reducible rfl)
  simp only [Act.put, List.getElem_toArray, List.getElem_cons_succ, List.getElem_cons_zero, List.setIfInBounds_toArray, List.set_cons_zero, List.set_cons_succ]
  refine wpAnyH_take (i := 18) (v := ?_) rfl (by kernel_rfl) (by kernel_rfl) (by kernel_rfl) (fun _ _ _ h => h) (Or.inl ⟨by rfl, ?_⟩) (by assumption) ?_
  rotate_left
  · (intro w hSw; (try dsimp only at hSw); simp only [List.getElem_toArray, List.getElem_cons_succ, List.getElem_cons_zero]; go_simp; try with_reducible rfl)
  simp only [Act.put, List.getElem_toArray, List.getElem_cons_succ, List.getElem_cons_zero, List.setIfInBounds_toArray, List.set_cons_zero, List.set_cons_succ]
  refine wpAnyH_take (i := 19) (v := ?_) rfl (by kernel_rfl) (by kernel_rfl) (by kernel_rfl) (fun _ _ _ h => h) (Or.inl ⟨by rfl, ?_⟩) (by assumption) ?_
  rotate_left
  · (intro w hSw; (try dsimp only at hSw); have hq := qW.out w hSw; simp only [List.getElem_toArray, List.getElem_cons_succ, List.getElem_cons_zero]; go_simp; try with_reducible rfl)
  simp only [Act.put, List.getElem_toArray, List.getElem_cons_succ, List.getElem_cons_zero, List.setIfInBounds_toArray, List.set_cons_zero, List.set_cons_succ]
  refine wpAnyH_take (i := 20) (v := ?_) rfl (by kernel_rfl) (by kernel_rfl) (by kernel_rfl) (fun _ _ _ h => h) (Or.inl ⟨by rfl, ?_⟩) (by assumption) ?_
  rotate_left
  · (intro w hSw; (try dsimp only at hSw); simp only [List.getElem_toArray, List.getElem_cons_succ, List.getElem_cons_zero]; go_simp; try with_reducible rfl)
  simp only [Act.put, List.getElem_toArray, List.getElem_cons_succ, List.getElem_cons_zero, List.setIfInBounds_toArray, List.set_cons_zero, List.set_cons_succ]
  refine wpAnyH_take (i := 21) (v := ?_) rfl (by kernel_rfl) (by kernel_rfl) (by kernel_rfl) (fun _ _ _ h => h) (Or.inl ⟨by rfl, ?_⟩) (by assumption) ?_
  rotate_left
  · (intro w hSw; (try dsimp only at hSw); simp only [List.getElem_toArray, List.getElem_cons_succ, List.getElem_cons_zero]; go_simp; try with_reducible rfl)
  simp only [Act.put, List.getElem_toArray, List.getElem_cons_succ, List.getElem_cons_zero, List.setIfInBounds_toArray, List.set_cons_zero, List.set_cons_succ]
  refine wpAnyH_take (i := 22) (v := ?_) rfl (by kernel_rfl) (by kernel_rfl) (by kernel_rfl) (fun _ _ _ h => h) (Or.inl ⟨by rfl, ?_⟩) (by assumption) ?_
  rotate_left
  · (intro w hSw; (try dsimp only at hSw); simp only [List.getElem_toArray, List.getElem_cons_succ, List.getElem_cons_zero]; go_simp; try with_reducible rfl)
  simp only [Act.put, List.getElem_toArray, List.getElem_cons_succ, List.getElem_cons_zero, List.setIfInBounds_toArray, List.set_cons_zero, List.set_cons_succ]
  refine wpAnyH_ready (rs := [23]) (by kernel_rfl) (by simp) ?_
  refine AllReadyH.cons rfl (fun K hK => ?_) AllReadyH.nil
  simp only [List.getElem_toArray, List.getElem_cons_succ, List.getElem_cons_zero]
  go_simp
  refine (awake_any _).mono ?_; rintro e w' ⟨rfl, hb⟩
  go_wp2_with fail
  refine hK.out _ _ ?_ (fun hHeld => ?_)
  · exact below_two hHeld hb
  clear hK K
  try simp only [Act.put, List.setIfInBounds_toArray, List.set_cons_zero, List.set_cons_succ]
  refine wpAnyH_take (i := 24) (v := ?_) rfl (by kernel_rfl) (by kernel_rfl) (by kernel_rfl) (fun _ _ _ h => h) (Or.inl ⟨by rfl, ?_⟩) (by assumption) ?_
  rotate_left
  · (intro w hSw; (try dsimp only at hSw); simp only [List.getElem_toArray, List.getElem_cons_succ, List.getElem_cons_zero]; go_simp; try with_reducible rfl)
  simp only [Act.put, List.getElem_toArray, List.getElem_cons_succ, List.getElem_cons_zero, List.setIfInBounds_toArray, List.set_cons_zero, List.set_cons_succ]
  refine wpAnyH_take (i := 25) (v := ?_) rfl (by kernel_rfl) (by kernel_rfl) (by kernel_rfl) (fun _ _ _ h => h) (Or.inl ⟨by rfl, ?_⟩) (by assumption) ?_
  rotate_left
  · (intro w hSw; (try dsimp only at hSw); simp only [List.getElem_toArray, List.getElem_cons_succ, List.getElem_cons_zero]; go_simp; try with_reducible rfl)
  simp only [Act.put, List.getElem_toArray, List.getElem_cons_succ, List.getElem_cons_zero, List.setIfInBounds_toArray, List.set_cons_zero, List.set_cons_succ]
  refine wpAnyH_done (by kernel_rfl) ?_ _
  go_wp2
  go_ret
  exact ⟨rfl, below_two B9.out (by assumption)⟩
end Go.Proofs.Ytlcjkmgeaiclbaa
