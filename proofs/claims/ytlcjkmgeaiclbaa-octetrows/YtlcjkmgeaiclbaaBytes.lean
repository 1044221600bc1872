/- Own: the contract of Bytes of layer 1 (no statement is proved here). -/
import Derived.Test.YtlcjkmgeaiclbaaPut
import Derived.Test.YtlcjkmgeaiclbaaSlot
import Derived.Test.YtlcjkmgeaiclbaaBlock
namespace Go.Proofs.Ytlcjkmgeaiclbaa
open Go.ChangeShapes Go.WideShapes Go.ChangeAt Go.RowKit

theorem Slot.row {B g : Nat} {W : World} {cs : List Value} {t : TypeId} (cs' : List Value) (h : Slot B W g cs t) : Slot B (W.setRow g cs'.toArray) g cs' t := ⟨h.1, setRow_heap _ _ _ _ _ _ h.2⟩
theorem Slot.rowOther {B g g' : Nat} {W : World} {cs : List Value} {t : TypeId} {cs' : Array Value} (h : Slot B W g cs t) (hne : g ≠ g') : Slot B (W.setRow g' cs') g cs t := ⟨h.1, (setRow_other _ _ _ _ hne).trans h.2⟩
theorem kept8_below {W0 W W' : World} {a b : Addr} {x y : Value} (h : Below W0.heap.size W0 W ∧ W.cell? a = some x ∧ W.cell? b = some y) (hb : Below W.heap.size W W') : Below W0.heap.size W0 W' ∧ W'.cell? a = some x ∧ W'.cell? b = some y :=
  ⟨below_two h.1 hb, Go.Proofs.Ytlcjkmgeaiclbaa.later hb h.2.1, Go.Proofs.Ytlcjkmgeaiclbaa.later hb h.2.2⟩
theorem kept8_size {W0 W : World} {a b : Addr} {x y : Value} (h : Below W0.heap.size W0 W ∧ W.cell? a = some x ∧ W.cell? b = some y) : W0.heap.size ≤ W.heap.size := h.1.size
theorem cell_setRow_far {W : World} {g p o : Nat} {cs : Array Value} (hne : p ≠ g) : (W.setRow g cs).cell? ⟨p, o, none⟩ = W.cell? ⟨p, o, none⟩ := by
  unfold World.cell?
  rw [setRow_other _ _ _ _ hne]
theorem kept8_row {W0 W : World} {p g i j : Nat} {x y : Value} {cs : Array Value} (h : Below W0.heap.size W0 W ∧ W.cell? ⟨p, i, none⟩ = some x ∧ W.cell? ⟨p, j, none⟩ = some y) (hg : W0.heap.size ≤ g) (hp : p < W0.heap.size) :
    Below W0.heap.size W0 (W.setRow g cs) ∧ (W.setRow g cs).cell? ⟨p, i, none⟩ = some x ∧ (W.setRow g cs).cell? ⟨p, j, none⟩ = some y :=
  ⟨below_setRow h.1 hg _, by rw [cell_setRow_far (by omega)]; exact h.2.1, by rw [cell_setRow_far (by omega)]; exact h.2.2⟩
theorem all_one {A : List Value} (h : A.toArray.all (·.oneCell') = true) : ∀ v ∈ A, v.oneCell' = true := by simpa using h
theorem one_app {A B : List Value} (hA : ∀ v ∈ A, v.oneCell' = true) (hB : ∀ v ∈ B, v.oneCell' = true) : ∀ v ∈ (A ++ B).toArray, v.oneCell' = true := by
  intro v hv
  rcases List.mem_append.1 (by simpa using hv) with h | h
  · exact hA v h
  · exact hB v h
theorem copy_half (W : World) (g q o c : Nat) (cur cs : List Value) (t t' : TypeId) (hg : W.heap[g]? = some (.cells cur.toArray t (0, 0))) (hq : W.heap[q]? = some (.cells cs.toArray t' (0, 0))) (hn : cs.length = 8) (hfit : o + 8 ≤ cur.length) (h1 : ∀ v ∈ cs, v.oneCell' = true) :
    (Builtin.copy_ #[22, 22] 3 #[.slice (some ⟨g, o, none⟩) 8 c, .slice (some ⟨q, 0, none⟩) 8 8]).run Try.prog W = .ok (goInt 8) (W.setRow g (cur.take o ++ cs ++ cur.drop (o + 8)).toArray) := by
  have h := run_copy_row (P := Try.prog) W 22 22 3 5 g o 8 c ⟨q, 0, none⟩ 8 8 cur.toArray t cs Try.underlying22 rfl hg (by rw [hn]; rfl)
    (fun j v hj => by rw [addr_add, cell_of_row W q _ _ _ _ hq]; simpa using hj) (by rw [hn, List.size_toArray]; exact hfit) h1
  rw [hn] at h
  exact h
set_option linter.unusedSimpArgs false in
set_option maxHeartbeats 8000000 in
theorem bytes_core (lo hi : Int) (A B : List Value) (hA : A.length = 8) (hB : B.length = 8) (oA : Hid (A.toArray.all (·.oneCell') = true)) (oB : Hid (B.toArray.all (·.oneCell') = true)) (w : World)
    (cA : Hid (∀ w, Calls Try.prog 21 #[.int .u64 lo] w fun e w' => e = .returned (.agg A.toArray) ∧ Below w.heap.size w w'))
    (cB : Hid (∀ w, Calls Try.prog 21 #[.int .u64 hi] w fun e w' => e = .returned (.agg B.toArray) ∧ Below w.heap.size w w')) :
    Calls Try.prog 22 #[.agg #[.int .u64 lo, .int .u64 hi]] w fun e w' => e = .returned (.agg (A ++ B).toArray) ∧ Below w.heap.size w w' := by
  obtain ⟨V, hV⟩ : ∃ V, V = (A ++ B).toArray := ⟨_, rfl⟩
  rw [← hV]
  have HV := hide hV
  clear hV
  obtain ⟨Z0, hZ⟩ : ∃ Z0, Z0 = (bcells nought16) := ⟨_, rfl⟩
  have hz : ∀ w, (zeroValue 27).run Try.prog w = .ok (.agg Z0.toArray) w := by rw [hZ]; exact zero16
  have hZl : Z0.length = 16 := by rw [hZ]; rfl
  have HZ := hide hZ
  clear hZ
  obtain ⟨W0, hW0⟩ : ∃ W0, W0 = (w.alloc (.cells #[.int .u64 lo, .int .u64 hi] 25)).alloc (.cells Z0.toArray 27) := ⟨_, rfl⟩
  have bw : Below w.heap.size w W0 := by rw [hW0]; exact below_alloc (below_alloc (Below.refl _ _) _) _
  have hzz : W0.heap.size = w.heap.size + 1 + 1 := by rw [hW0]; simp
  have c0 : W0.cell? ⟨w.heap.size, 0, none⟩ = some (.int .u64 lo) := by rw [hW0, cell_of_row _ _ _ _ _ _ (heap_alloc2_old _ _ _)]; rfl
  have c1 : W0.cell? ⟨w.heap.size, 1, none⟩ = some (.int .u64 hi) := by rw [hW0, cell_of_row _ _ _ _ _ _ (heap_alloc2_old _ _ _)]; rfl
  have ro : W0.heap[w.heap.size + 1]? = some (.cells Z0.toArray 27 (0, 0)) := by rw [hW0]; exact heap_alloc2_new _ _ _
  have hp : w.heap.size < W0.heap.size := by omega
  have HS := hide hzz
  have BW := hide bw
  have RO := hide ro
  have HL := hide hZl
  clear hzz bw ro hZl
  go_enter Try.func22, Try.ntmps22
  go_wp2_with fail
  rw [← hW0]
  clear hW0
  go_cut [3, 4] (fun p3 p4 wc => ∃ g h, p3 = .pointer (some ⟨g, 0, none⟩) ∧ p4 = .pointer (some ⟨h, 0, none⟩) ∧ Below W0.heap.size W0 wc ∧ Slot W0.heap.size wc g A 38 ∧ Slot W0.heap.size wc h B 38)
  case first =>
    refine wp_region_held_drew (S := fun w' => Below W0.heap.size W0 w' ∧ w'.cell? ⟨w.heap.size, 0, none⟩ = some (.int .u64 lo) ∧ w'.cell? ⟨w.heap.size, 1, none⟩ = some (.int .u64 hi)) (by kernel_rfl) ?_ (fun hHeld => ?_)
    · exact ⟨(Below.refl _ _).drew, c0, c1⟩
    refine wpAnyH_take (i := 0) (v := ?_) rfl (by kernel_rfl) (by kernel_rfl) (by kernel_rfl) (fun _ _ _ h => h) (Or.inl ⟨by rfl, ?_⟩) (by assumption) ?_
    rotate_left
    · (intro w hSw; (try dsimp only at hSw); simp only [List.getElem_toArray, List.getElem_cons_zero]; go_simp; try with_reducible rfl)
    simp only [Act.put, List.getElem_toArray, List.getElem_cons_zero, List.setIfInBounds_toArray, List.set_cons_zero, List.set_cons_succ]
    refine wpAnyH_take (i := 1) (v := ?_) rfl (by kernel_rfl) (by kernel_rfl) (by kernel_rfl) (fun _ _ _ h => h) (Or.inl ⟨by rfl, ?_⟩) (by assumption) ?_
    rotate_left
    · (intro w hSw; (try dsimp only at hSw); simp only [List.getElem_toArray, List.getElem_cons_succ, List.getElem_cons_zero]; go_simp; try with_reducible rfl)
    simp only [Act.put, List.getElem_toArray, List.getElem_cons_succ, List.getElem_cons_zero, List.setIfInBounds_toArray, List.set_cons_zero, List.set_cons_succ]
    refine wpAnyH_take (i := 3) (v := ?_) rfl (by kernel_rfl) (by kernel_rfl) (by kernel_rfl) (fun _ _ _ h => h) (Or.inl ⟨by rfl, ?_⟩) (by assumption) ?_
    rotate_left
    · (intro w hSw; (try dsimp only at hSw); simp only [List.getElem_toArray, List.getElem_cons_succ, List.getElem_cons_zero]; go_simp; try with_reducible rfl)
    simp only [Act.put, List.getElem_toArray, List.getElem_cons_succ, List.getElem_cons_zero, List.setIfInBounds_toArray, List.set_cons_zero, List.set_cons_succ]
    refine wpAnyH_take (i := 4) (v := ?_) rfl (by kernel_rfl) (by kernel_rfl) (by kernel_rfl) (fun _ _ _ h => h) (Or.inl ⟨by rfl, ?_⟩) (by assumption) ?_
    rotate_left
    · (intro w hSw; (try dsimp only at hSw); simp only [List.getElem_toArray, List.getElem_cons_succ, List.getElem_cons_zero]; go_simp; try with_reducible rfl)
    simp only [Act.put, List.getElem_toArray, List.getElem_cons_succ, List.getElem_cons_zero, List.setIfInBounds_toArray, List.set_cons_zero, List.set_cons_succ]
    have hHeld' := hHeld
    obtain ⟨wd, ed⟩ : ∃ wd, wd = W0.drew := ⟨_, rfl⟩
    rw [← ed] at hHeld' ⊢
    clear ed hHeld
    have hHeld := hHeld'
    clear hHeld'
    refine wpAnyH_ready (rs := [2, 6, 7]) (by kernel_rfl) (by simp) ?_
    refine AllReadyH.cons rfl (fun K hK => ?_) (AllReadyH.cons rfl (fun K hK => ?_) (AllReadyH.cons rfl (fun K hK => ?_) (AllReadyH.nil)))
    · simp only [List.getElem_toArray, List.getElem_cons_succ, List.getElem_cons_zero]
      go_simp
      refine (cA.out _).mono ?_
      rintro e w1 ⟨rfl, b1⟩
      go_wp2_with fail
      refine hK.out _ _ ?_ (fun hHeld => ?_)
      · exact kept8_below (by assumption) b1
      clear hK K
      try simp only [Act.put, List.setIfInBounds_toArray, List.set_cons_zero, List.set_cons_succ]
      refine wpAnyH_ready (rs := [5, 6, 7]) (by kernel_rfl) (by simp) ?_
      refine AllReadyH.cons rfl (fun K hK => ?_) (AllReadyH.cons rfl (fun K hK => ?_) (AllReadyH.cons rfl (fun K hK => ?_) (AllReadyH.nil)))
      · simp only [List.getElem_toArray, List.getElem_cons_succ, List.getElem_cons_zero]
        go_simp
        refine (cB.out _).mono ?_
        rintro e w2 ⟨rfl, b2⟩
        go_wp2_with fail
        refine hK.out _ _ ?_ (fun hHeld => ?_)
        · exact kept8_below (by assumption) b2
        clear hK K
        try simp only [Act.put, List.setIfInBounds_toArray, List.set_cons_zero, List.set_cons_succ]
        refine wpAnyH_ready (rs := [6, 7]) (by kernel_rfl) (by simp) ?_
        refine AllReadyH.cons rfl (fun K hK => ?_) (AllReadyH.cons rfl (fun K hK => ?_) (AllReadyH.nil))
        · simp only [List.getElem_toArray, List.getElem_cons_succ, List.getElem_cons_zero]
          go_simp
          obtain ⟨w3, e3⟩ : ∃ w3, w3 = (w2).alloc (.cells ([.int .u8 0, .int .u8 0, .int .u8 0, .int .u8 0, .int .u8 0, .int .u8 0, .int .u8 0, .int .u8 0]).toArray 38) := ⟨_, rfl⟩
          have b3 : Below (w2).heap.size (w2) w3 := by rw [e3]; exact below_alloc (Below.refl _ _) _
          refine hK.out _ _ ?_ (fun hHeld => ?_)
          · have h := kept8_below (by assumption) b3; rw [e3] at h; exact h
          clear hK K
          have sp3 : Slot W0.heap.size w3 (w2).heap.size ([.int .u8 0, .int .u8 0, .int .u8 0, .int .u8 0, .int .u8 0, .int .u8 0, .int .u8 0, .int .u8 0]) 38 := by rw [e3]; exact Slot.new _ _ _ _ (kept8_size (by assumption))
          have hHeld' := hHeld
          clear hHeld
          rw [← e3] at hHeld' ⊢
          have hHeld := hHeld'
          clear hHeld' e3
          try simp only [Act.put, List.setIfInBounds_toArray, List.set_cons_zero, List.set_cons_succ]
          refine wpAnyH_ready (rs := [7]) (by kernel_rfl) (by simp) ?_
          refine AllReadyH.cons rfl (fun K hK => ?_) (AllReadyH.nil)
          · simp only [List.getElem_toArray, List.getElem_cons_succ, List.getElem_cons_zero]
            go_simp
            obtain ⟨w4, e4⟩ : ∃ w4, w4 = (w3).alloc (.cells ([.int .u8 0, .int .u8 0, .int .u8 0, .int .u8 0, .int .u8 0, .int .u8 0, .int .u8 0, .int .u8 0]).toArray 38) := ⟨_, rfl⟩
            have b4 : Below (w3).heap.size (w3) w4 := by rw [e4]; exact below_alloc (Below.refl _ _) _
            refine hK.out _ _ ?_ (fun hHeld => ?_)
            · have h := kept8_below (by assumption) b4; rw [e4] at h; exact h
            clear hK K
            have sq4 : Slot W0.heap.size w4 (w3).heap.size ([.int .u8 0, .int .u8 0, .int .u8 0, .int .u8 0, .int .u8 0, .int .u8 0, .int .u8 0, .int .u8 0]) 38 := by rw [e4]; exact Slot.new _ _ _ _ (kept8_size (by assumption))
            have hHeld' := hHeld
            clear hHeld
            have sp4 := sp3.later b4
            have nepq : (w2).heap.size ≠ (w3).heap.size := Nat.ne_of_lt sp3.lt
            rw [← e4] at hHeld' ⊢
            have hHeld := hHeld'
            clear hHeld' e4
            try simp only [Act.put, List.setIfInBounds_toArray, List.set_cons_zero, List.set_cons_succ]
            refine wpAnyH_ready (rs := [8]) (by kernel_rfl) (by simp) ?_
            refine AllReadyH.cons rfl (fun K hK => ?_) AllReadyH.nil
            rw [if_pos (by rfl)]
            refine wp_store_row _ _ _ rfl (w2).heap.size A.toArray rfl rfl _ _ sp4.2 (by rw [List.size_toArray, hA]; rfl) (by rw [List.size_toArray, List.size_toArray, hA]; rfl) oA.out ?_
            refine hK.out _ _ ?_ (fun hHeld => ?_)
            · exact kept8_row (by assumption) sp4.1 hp
            clear hK K
            try simp only [Act.put, List.setIfInBounds_toArray, List.set_cons_zero, List.set_cons_succ]
            have ne1 : (w3).heap.size ≠ (w2).heap.size := by first | exact nepq | exact nepq.symm | exact neqp | exact neqp.symm
            have t5 := Slot.row A sp4
            have t6 := Slot.rowOther (cs' := A.toArray) sq4 ne1
            refine wpAnyH_ready (rs := [9]) (by kernel_rfl) (by simp) ?_
            refine AllReadyH.cons rfl (fun K hK => ?_) AllReadyH.nil
            rw [if_pos (by rfl)]
            refine wp_store_row _ _ _ rfl (w3).heap.size B.toArray rfl rfl _ _ t6.2 (by rw [List.size_toArray, hB]; rfl) (by rw [List.size_toArray, List.size_toArray, hB]; rfl) oB.out ?_
            refine hK.out _ _ ?_ (fun hHeld => ?_)
            · exact kept8_row (by assumption) t6.1 hp
            clear hK K
            try simp only [Act.put, List.setIfInBounds_toArray, List.set_cons_zero, List.set_cons_succ]
            have v6 := Slot.row B t6
            have v5 := Slot.rowOther (cs' := B.toArray) t5 ne1.symm
            refine wpAnyH_done (by kernel_rfl) ?_ _
            go_wp2_with fail
            go_meet
            case rel => exact ⟨_, _, rfl, rfl, hHeld.1, v5, v6⟩
        · simp only [List.getElem_toArray, List.getElem_cons_succ, List.getElem_cons_zero]
          go_simp
          obtain ⟨w5, e5⟩ : ∃ w5, w5 = (w2).alloc (.cells ([.int .u8 0, .int .u8 0, .int .u8 0, .int .u8 0, .int .u8 0, .int .u8 0, .int .u8 0, .int .u8 0]).toArray 38) := ⟨_, rfl⟩
          have b5 : Below (w2).heap.size (w2) w5 := by rw [e5]; exact below_alloc (Below.refl _ _) _
          refine hK.out _ _ ?_ (fun hHeld => ?_)
          · have h := kept8_below (by assumption) b5; rw [e5] at h; exact h
          clear hK K
          have sq5 : Slot W0.heap.size w5 (w2).heap.size ([.int .u8 0, .int .u8 0, .int .u8 0, .int .u8 0, .int .u8 0, .int .u8 0, .int .u8 0, .int .u8 0]) 38 := by rw [e5]; exact Slot.new _ _ _ _ (kept8_size (by assumption))
          have hHeld' := hHeld
          clear hHeld
          rw [← e5] at hHeld' ⊢
          have hHeld := hHeld'
          clear hHeld' e5
          try simp only [Act.put, List.setIfInBounds_toArray, List.set_cons_zero, List.set_cons_succ]
          refine wpAnyH_ready (rs := [6]) (by kernel_rfl) (by simp) ?_
          refine AllReadyH.cons rfl (fun K hK => ?_) (AllReadyH.nil)
          · simp only [List.getElem_toArray, List.getElem_cons_succ, List.getElem_cons_zero]
            go_simp
            obtain ⟨w6, e6⟩ : ∃ w6, w6 = (w5).alloc (.cells ([.int .u8 0, .int .u8 0, .int .u8 0, .int .u8 0, .int .u8 0, .int .u8 0, .int .u8 0, .int .u8 0]).toArray 38) := ⟨_, rfl⟩
            have b6 : Below (w5).heap.size (w5) w6 := by rw [e6]; exact below_alloc (Below.refl _ _) _
            refine hK.out _ _ ?_ (fun hHeld => ?_)
            · have h := kept8_below (by assumption) b6; rw [e6] at h; exact h
            clear hK K
            have sp6 : Slot W0.heap.size w6 (w5).heap.size ([.int .u8 0, .int .u8 0, .int .u8 0, .int .u8 0, .int .u8 0, .int .u8 0, .int .u8 0, .int .u8 0]) 38 := by rw [e6]; exact Slot.new _ _ _ _ (kept8_size (by assumption))
            have hHeld' := hHeld
            clear hHeld
            have sq6 := sq5.later b6
            have neqp : (w2).heap.size ≠ (w5).heap.size := Nat.ne_of_lt sq5.lt
            rw [← e6] at hHeld' ⊢
            have hHeld := hHeld'
            clear hHeld' e6
            try simp only [Act.put, List.setIfInBounds_toArray, List.set_cons_zero, List.set_cons_succ]
            refine wpAnyH_ready (rs := [8]) (by kernel_rfl) (by simp) ?_
            refine AllReadyH.cons rfl (fun K hK => ?_) AllReadyH.nil
            rw [if_pos (by rfl)]
            refine wp_store_row _ _ _ rfl (w5).heap.size A.toArray rfl rfl _ _ sp6.2 (by rw [List.size_toArray, hA]; rfl) (by rw [List.size_toArray, List.size_toArray, hA]; rfl) oA.out ?_
            refine hK.out _ _ ?_ (fun hHeld => ?_)
            · exact kept8_row (by assumption) sp6.1 hp
            clear hK K
            try simp only [Act.put, List.setIfInBounds_toArray, List.set_cons_zero, List.set_cons_succ]
            have ne1 : (w2).heap.size ≠ (w5).heap.size := by first | exact nepq | exact nepq.symm | exact neqp | exact neqp.symm
            have t5 := Slot.row A sp6
            have t6 := Slot.rowOther (cs' := A.toArray) sq6 ne1
            refine wpAnyH_ready (rs := [9]) (by kernel_rfl) (by simp) ?_
            refine AllReadyH.cons rfl (fun K hK => ?_) AllReadyH.nil
            rw [if_pos (by rfl)]
            refine wp_store_row _ _ _ rfl (w2).heap.size B.toArray rfl rfl _ _ t6.2 (by rw [List.size_toArray, hB]; rfl) (by rw [List.size_toArray, List.size_toArray, hB]; rfl) oB.out ?_
            refine hK.out _ _ ?_ (fun hHeld => ?_)
            · exact kept8_row (by assumption) t6.1 hp
            clear hK K
            try simp only [Act.put, List.setIfInBounds_toArray, List.set_cons_zero, List.set_cons_succ]
            have v6 := Slot.row B t6
            have v5 := Slot.rowOther (cs' := B.toArray) t5 ne1.symm
            refine wpAnyH_done (by kernel_rfl) ?_ _
            go_wp2_with fail
            go_meet
            case rel => exact ⟨_, _, rfl, rfl, hHeld.1, v5, v6⟩
      · simp only [List.getElem_toArray, List.getElem_cons_succ, List.getElem_cons_zero]
        go_simp
        obtain ⟨w7, e7⟩ : ∃ w7, w7 = (w1).alloc (.cells ([.int .u8 0, .int .u8 0, .int .u8 0, .int .u8 0, .int .u8 0, .int .u8 0, .int .u8 0, .int .u8 0]).toArray 38) := ⟨_, rfl⟩
        have b7 : Below (w1).heap.size (w1) w7 := by rw [e7]; exact below_alloc (Below.refl _ _) _
        refine hK.out _ _ ?_ (fun hHeld => ?_)
        · have h := kept8_below (by assumption) b7; rw [e7] at h; exact h
        clear hK K
        have sp7 : Slot W0.heap.size w7 (w1).heap.size ([.int .u8 0, .int .u8 0, .int .u8 0, .int .u8 0, .int .u8 0, .int .u8 0, .int .u8 0, .int .u8 0]) 38 := by rw [e7]; exact Slot.new _ _ _ _ (kept8_size (by assumption))
        have hHeld' := hHeld
        clear hHeld
        rw [← e7] at hHeld' ⊢
        have hHeld := hHeld'
        clear hHeld' e7
        try simp only [Act.put, List.setIfInBounds_toArray, List.set_cons_zero, List.set_cons_succ]
        refine wpAnyH_ready (rs := [5, 7]) (by kernel_rfl) (by simp) ?_
        refine AllReadyH.cons rfl (fun K hK => ?_) (AllReadyH.cons rfl (fun K hK => ?_) (AllReadyH.nil))
        · simp only [List.getElem_toArray, List.getElem_cons_succ, List.getElem_cons_zero]
          go_simp
          refine (cB.out _).mono ?_
          rintro e w8 ⟨rfl, b8⟩
          go_wp2_with fail
          refine hK.out _ _ ?_ (fun hHeld => ?_)
          · exact kept8_below (by assumption) b8
          clear hK K
          have sp8 := sp7.later b8
          try simp only [Act.put, List.setIfInBounds_toArray, List.set_cons_zero, List.set_cons_succ]
          refine wpAnyH_ready (rs := [7]) (by kernel_rfl) (by simp) ?_
          refine AllReadyH.cons rfl (fun K hK => ?_) (AllReadyH.nil)
          · simp only [List.getElem_toArray, List.getElem_cons_succ, List.getElem_cons_zero]
            go_simp
            obtain ⟨w9, e9⟩ : ∃ w9, w9 = (w8).alloc (.cells ([.int .u8 0, .int .u8 0, .int .u8 0, .int .u8 0, .int .u8 0, .int .u8 0, .int .u8 0, .int .u8 0]).toArray 38) := ⟨_, rfl⟩
            have b9 : Below (w8).heap.size (w8) w9 := by rw [e9]; exact below_alloc (Below.refl _ _) _
            refine hK.out _ _ ?_ (fun hHeld => ?_)
            · have h := kept8_below (by assumption) b9; rw [e9] at h; exact h
            clear hK K
            have sq9 : Slot W0.heap.size w9 (w8).heap.size ([.int .u8 0, .int .u8 0, .int .u8 0, .int .u8 0, .int .u8 0, .int .u8 0, .int .u8 0, .int .u8 0]) 38 := by rw [e9]; exact Slot.new _ _ _ _ (kept8_size (by assumption))
            have hHeld' := hHeld
            clear hHeld
            have sp9 := sp8.later b9
            have nepq : (w1).heap.size ≠ (w8).heap.size := Nat.ne_of_lt sp8.lt
            rw [← e9] at hHeld' ⊢
            have hHeld := hHeld'
            clear hHeld' e9
            try simp only [Act.put, List.setIfInBounds_toArray, List.set_cons_zero, List.set_cons_succ]
            refine wpAnyH_ready (rs := [8]) (by kernel_rfl) (by simp) ?_
            refine AllReadyH.cons rfl (fun K hK => ?_) AllReadyH.nil
            rw [if_pos (by rfl)]
            refine wp_store_row _ _ _ rfl (w1).heap.size A.toArray rfl rfl _ _ sp9.2 (by rw [List.size_toArray, hA]; rfl) (by rw [List.size_toArray, List.size_toArray, hA]; rfl) oA.out ?_
            refine hK.out _ _ ?_ (fun hHeld => ?_)
            · exact kept8_row (by assumption) sp9.1 hp
            clear hK K
            try simp only [Act.put, List.setIfInBounds_toArray, List.set_cons_zero, List.set_cons_succ]
            have ne1 : (w8).heap.size ≠ (w1).heap.size := by first | exact nepq | exact nepq.symm | exact neqp | exact neqp.symm
            have t5 := Slot.row A sp9
            have t6 := Slot.rowOther (cs' := A.toArray) sq9 ne1
            refine wpAnyH_ready (rs := [9]) (by kernel_rfl) (by simp) ?_
            refine AllReadyH.cons rfl (fun K hK => ?_) AllReadyH.nil
            rw [if_pos (by rfl)]
            refine wp_store_row _ _ _ rfl (w8).heap.size B.toArray rfl rfl _ _ t6.2 (by rw [List.size_toArray, hB]; rfl) (by rw [List.size_toArray, List.size_toArray, hB]; rfl) oB.out ?_
            refine hK.out _ _ ?_ (fun hHeld => ?_)
            · exact kept8_row (by assumption) t6.1 hp
            clear hK K
            try simp only [Act.put, List.setIfInBounds_toArray, List.set_cons_zero, List.set_cons_succ]
            have v6 := Slot.row B t6
            have v5 := Slot.rowOther (cs' := B.toArray) t5 ne1.symm
            refine wpAnyH_done (by kernel_rfl) ?_ _
            go_wp2_with fail
            go_meet
            case rel => exact ⟨_, _, rfl, rfl, hHeld.1, v5, v6⟩
        · simp only [List.getElem_toArray, List.getElem_cons_succ, List.getElem_cons_zero]
          go_simp
          obtain ⟨w10, e10⟩ : ∃ w10, w10 = (w7).alloc (.cells ([.int .u8 0, .int .u8 0, .int .u8 0, .int .u8 0, .int .u8 0, .int .u8 0, .int .u8 0, .int .u8 0]).toArray 38) := ⟨_, rfl⟩
          have b10 : Below (w7).heap.size (w7) w10 := by rw [e10]; exact below_alloc (Below.refl _ _) _
          refine hK.out _ _ ?_ (fun hHeld => ?_)
          · have h := kept8_below (by assumption) b10; rw [e10] at h; exact h
          clear hK K
          have sq10 : Slot W0.heap.size w10 (w7).heap.size ([.int .u8 0, .int .u8 0, .int .u8 0, .int .u8 0, .int .u8 0, .int .u8 0, .int .u8 0, .int .u8 0]) 38 := by rw [e10]; exact Slot.new _ _ _ _ (kept8_size (by assumption))
          have hHeld' := hHeld
          clear hHeld
          have sp10 := sp7.later b10
          have nepq : (w1).heap.size ≠ (w7).heap.size := Nat.ne_of_lt sp7.lt
          rw [← e10] at hHeld' ⊢
          have hHeld := hHeld'
          clear hHeld' e10
          try simp only [Act.put, List.setIfInBounds_toArray, List.set_cons_zero, List.set_cons_succ]
          refine wpAnyH_ready (rs := [5]) (by kernel_rfl) (by simp) ?_
          refine AllReadyH.cons rfl (fun K hK => ?_) (AllReadyH.nil)
          · simp only [List.getElem_toArray, List.getElem_cons_succ, List.getElem_cons_zero]
            go_simp
            refine (cB.out _).mono ?_
            rintro e w11 ⟨rfl, b11⟩
            go_wp2_with fail
            refine hK.out _ _ ?_ (fun hHeld => ?_)
            · exact kept8_below (by assumption) b11
            clear hK K
            have sp11 := sp10.later b11
            have sq11 := sq10.later b11
            try simp only [Act.put, List.setIfInBounds_toArray, List.set_cons_zero, List.set_cons_succ]
            refine wpAnyH_ready (rs := [8]) (by kernel_rfl) (by simp) ?_
            refine AllReadyH.cons rfl (fun K hK => ?_) AllReadyH.nil
            rw [if_pos (by rfl)]
            refine wp_store_row _ _ _ rfl (w1).heap.size A.toArray rfl rfl _ _ sp11.2 (by rw [List.size_toArray, hA]; rfl) (by rw [List.size_toArray, List.size_toArray, hA]; rfl) oA.out ?_
            refine hK.out _ _ ?_ (fun hHeld => ?_)
            · exact kept8_row (by assumption) sp11.1 hp
            clear hK K
            try simp only [Act.put, List.setIfInBounds_toArray, List.set_cons_zero, List.set_cons_succ]
            have ne1 : (w7).heap.size ≠ (w1).heap.size := by first | exact nepq | exact nepq.symm | exact neqp | exact neqp.symm
            have t5 := Slot.row A sp11
            have t6 := Slot.rowOther (cs' := A.toArray) sq11 ne1
            refine wpAnyH_ready (rs := [9]) (by kernel_rfl) (by simp) ?_
            refine AllReadyH.cons rfl (fun K hK => ?_) AllReadyH.nil
            rw [if_pos (by rfl)]
            refine wp_store_row _ _ _ rfl (w7).heap.size B.toArray rfl rfl _ _ t6.2 (by rw [List.size_toArray, hB]; rfl) (by rw [List.size_toArray, List.size_toArray, hB]; rfl) oB.out ?_
            refine hK.out _ _ ?_ (fun hHeld => ?_)
            · exact kept8_row (by assumption) t6.1 hp
            clear hK K
            try simp only [Act.put, List.setIfInBounds_toArray, List.set_cons_zero, List.set_cons_succ]
            have v6 := Slot.row B t6
            have v5 := Slot.rowOther (cs' := B.toArray) t5 ne1.symm
            refine wpAnyH_done (by kernel_rfl) ?_ _
            go_wp2_with fail
            go_meet
            case rel => exact ⟨_, _, rfl, rfl, hHeld.1, v5, v6⟩
      · simp only [List.getElem_toArray, List.getElem_cons_succ, List.getElem_cons_zero]
        go_simp
        obtain ⟨w12, e12⟩ : ∃ w12, w12 = (w1).alloc (.cells ([.int .u8 0, .int .u8 0, .int .u8 0, .int .u8 0, .int .u8 0, .int .u8 0, .int .u8 0, .int .u8 0]).toArray 38) := ⟨_, rfl⟩
        have b12 : Below (w1).heap.size (w1) w12 := by rw [e12]; exact below_alloc (Below.refl _ _) _
        refine hK.out _ _ ?_ (fun hHeld => ?_)
        · have h := kept8_below (by assumption) b12; rw [e12] at h; exact h
        clear hK K
        have sq12 : Slot W0.heap.size w12 (w1).heap.size ([.int .u8 0, .int .u8 0, .int .u8 0, .int .u8 0, .int .u8 0, .int .u8 0, .int .u8 0, .int .u8 0]) 38 := by rw [e12]; exact Slot.new _ _ _ _ (kept8_size (by assumption))
        have hHeld' := hHeld
        clear hHeld
        rw [← e12] at hHeld' ⊢
        have hHeld := hHeld'
        clear hHeld' e12
        try simp only [Act.put, List.setIfInBounds_toArray, List.set_cons_zero, List.set_cons_succ]
        refine wpAnyH_ready (rs := [5, 6]) (by kernel_rfl) (by simp) ?_
        refine AllReadyH.cons rfl (fun K hK => ?_) (AllReadyH.cons rfl (fun K hK => ?_) (AllReadyH.nil))
        · simp only [List.getElem_toArray, List.getElem_cons_succ, List.getElem_cons_zero]
          go_simp
          refine (cB.out _).mono ?_
          rintro e w13 ⟨rfl, b13⟩
          go_wp2_with fail
          refine hK.out _ _ ?_ (fun hHeld => ?_)
          · exact kept8_below (by assumption) b13
          clear hK K
          have sq13 := sq12.later b13
          try simp only [Act.put, List.setIfInBounds_toArray, List.set_cons_zero, List.set_cons_succ]
          refine wpAnyH_ready (rs := [6]) (by kernel_rfl) (by simp) ?_
          refine AllReadyH.cons rfl (fun K hK => ?_) (AllReadyH.nil)
          · simp only [List.getElem_toArray, List.getElem_cons_succ, List.getElem_cons_zero]
            go_simp
            obtain ⟨w14, e14⟩ : ∃ w14, w14 = (w13).alloc (.cells ([.int .u8 0, .int .u8 0, .int .u8 0, .int .u8 0, .int .u8 0, .int .u8 0, .int .u8 0, .int .u8 0]).toArray 38) := ⟨_, rfl⟩
            have b14 : Below (w13).heap.size (w13) w14 := by rw [e14]; exact below_alloc (Below.refl _ _) _
            refine hK.out _ _ ?_ (fun hHeld => ?_)
            · have h := kept8_below (by assumption) b14; rw [e14] at h; exact h
            clear hK K
            have sp14 : Slot W0.heap.size w14 (w13).heap.size ([.int .u8 0, .int .u8 0, .int .u8 0, .int .u8 0, .int .u8 0, .int .u8 0, .int .u8 0, .int .u8 0]) 38 := by rw [e14]; exact Slot.new _ _ _ _ (kept8_size (by assumption))
            have hHeld' := hHeld
            clear hHeld
            have sq14 := sq13.later b14
            have neqp : (w1).heap.size ≠ (w13).heap.size := Nat.ne_of_lt sq13.lt
            rw [← e14] at hHeld' ⊢
            have hHeld := hHeld'
            clear hHeld' e14
            try simp only [Act.put, List.setIfInBounds_toArray, List.set_cons_zero, List.set_cons_succ]
            refine wpAnyH_ready (rs := [8]) (by kernel_rfl) (by simp) ?_
            refine AllReadyH.cons rfl (fun K hK => ?_) AllReadyH.nil
            rw [if_pos (by rfl)]
            refine wp_store_row _ _ _ rfl (w13).heap.size A.toArray rfl rfl _ _ sp14.2 (by rw [List.size_toArray, hA]; rfl) (by rw [List.size_toArray, List.size_toArray, hA]; rfl) oA.out ?_
            refine hK.out _ _ ?_ (fun hHeld => ?_)
            · exact kept8_row (by assumption) sp14.1 hp
            clear hK K
            try simp only [Act.put, List.setIfInBounds_toArray, List.set_cons_zero, List.set_cons_succ]
            have ne1 : (w1).heap.size ≠ (w13).heap.size := by first | exact nepq | exact nepq.symm | exact neqp | exact neqp.symm
            have t5 := Slot.row A sp14
            have t6 := Slot.rowOther (cs' := A.toArray) sq14 ne1
            refine wpAnyH_ready (rs := [9]) (by kernel_rfl) (by simp) ?_
            refine AllReadyH.cons rfl (fun K hK => ?_) AllReadyH.nil
            rw [if_pos (by rfl)]
            refine wp_store_row _ _ _ rfl (w1).heap.size B.toArray rfl rfl _ _ t6.2 (by rw [List.size_toArray, hB]; rfl) (by rw [List.size_toArray, List.size_toArray, hB]; rfl) oB.out ?_
            refine hK.out _ _ ?_ (fun hHeld => ?_)
            · exact kept8_row (by assumption) t6.1 hp
            clear hK K
            try simp only [Act.put, List.setIfInBounds_toArray, List.set_cons_zero, List.set_cons_succ]
            have v6 := Slot.row B t6
            have v5 := Slot.rowOther (cs' := B.toArray) t5 ne1.symm
            refine wpAnyH_done (by kernel_rfl) ?_ _
            go_wp2_with fail
            go_meet
            case rel => exact ⟨_, _, rfl, rfl, hHeld.1, v5, v6⟩
        · simp only [List.getElem_toArray, List.getElem_cons_succ, List.getElem_cons_zero]
          go_simp
          obtain ⟨w15, e15⟩ : ∃ w15, w15 = (w12).alloc (.cells ([.int .u8 0, .int .u8 0, .int .u8 0, .int .u8 0, .int .u8 0, .int .u8 0, .int .u8 0, .int .u8 0]).toArray 38) := ⟨_, rfl⟩
          have b15 : Below (w12).heap.size (w12) w15 := by rw [e15]; exact below_alloc (Below.refl _ _) _
          refine hK.out _ _ ?_ (fun hHeld => ?_)
          · have h := kept8_below (by assumption) b15; rw [e15] at h; exact h
          clear hK K
          have sp15 : Slot W0.heap.size w15 (w12).heap.size ([.int .u8 0, .int .u8 0, .int .u8 0, .int .u8 0, .int .u8 0, .int .u8 0, .int .u8 0, .int .u8 0]) 38 := by rw [e15]; exact Slot.new _ _ _ _ (kept8_size (by assumption))
          have hHeld' := hHeld
          clear hHeld
          have sq15 := sq12.later b15
          have neqp : (w1).heap.size ≠ (w12).heap.size := Nat.ne_of_lt sq12.lt
          rw [← e15] at hHeld' ⊢
          have hHeld := hHeld'
          clear hHeld' e15
          try simp only [Act.put, List.setIfInBounds_toArray, List.set_cons_zero, List.set_cons_succ]
          refine wpAnyH_ready (rs := [5]) (by kernel_rfl) (by simp) ?_
          refine AllReadyH.cons rfl (fun K hK => ?_) (AllReadyH.nil)
          · simp only [List.getElem_toArray, List.getElem_cons_succ, List.getElem_cons_zero]
            go_simp
            refine (cB.out _).mono ?_
            rintro e w16 ⟨rfl, b16⟩
            go_wp2_with fail
            refine hK.out _ _ ?_ (fun hHeld => ?_)
            · exact kept8_below (by assumption) b16
            clear hK K
            have sq16 := sq15.later b16
            have sp16 := sp15.later b16
            try simp only [Act.put, List.setIfInBounds_toArray, List.set_cons_zero, List.set_cons_succ]
            refine wpAnyH_ready (rs := [8]) (by kernel_rfl) (by simp) ?_
            refine AllReadyH.cons rfl (fun K hK => ?_) AllReadyH.nil
            rw [if_pos (by rfl)]
            refine wp_store_row _ _ _ rfl (w12).heap.size A.toArray rfl rfl _ _ sp16.2 (by rw [List.size_toArray, hA]; rfl) (by rw [List.size_toArray, List.size_toArray, hA]; rfl) oA.out ?_
            refine hK.out _ _ ?_ (fun hHeld => ?_)
            · exact kept8_row (by assumption) sp16.1 hp
            clear hK K
            try simp only [Act.put, List.setIfInBounds_toArray, List.set_cons_zero, List.set_cons_succ]
            have ne1 : (w1).heap.size ≠ (w12).heap.size := by first | exact nepq | exact nepq.symm | exact neqp | exact neqp.symm
            have t5 := Slot.row A sp16
            have t6 := Slot.rowOther (cs' := A.toArray) sq16 ne1
            refine wpAnyH_ready (rs := [9]) (by kernel_rfl) (by simp) ?_
            refine AllReadyH.cons rfl (fun K hK => ?_) AllReadyH.nil
            rw [if_pos (by rfl)]
            refine wp_store_row _ _ _ rfl (w1).heap.size B.toArray rfl rfl _ _ t6.2 (by rw [List.size_toArray, hB]; rfl) (by rw [List.size_toArray, List.size_toArray, hB]; rfl) oB.out ?_
            refine hK.out _ _ ?_ (fun hHeld => ?_)
            · exact kept8_row (by assumption) t6.1 hp
            clear hK K
            try simp only [Act.put, List.setIfInBounds_toArray, List.set_cons_zero, List.set_cons_succ]
            have v6 := Slot.row B t6
            have v5 := Slot.rowOther (cs' := B.toArray) t5 ne1.symm
            refine wpAnyH_done (by kernel_rfl) ?_ _
            go_wp2_with fail
            go_meet
            case rel => exact ⟨_, _, rfl, rfl, hHeld.1, v5, v6⟩
    · simp only [List.getElem_toArray, List.getElem_cons_succ, List.getElem_cons_zero]
      go_simp
      obtain ⟨w17, e17⟩ : ∃ w17, w17 = (wd).alloc (.cells ([.int .u8 0, .int .u8 0, .int .u8 0, .int .u8 0, .int .u8 0, .int .u8 0, .int .u8 0, .int .u8 0]).toArray 38) := ⟨_, rfl⟩
      have b17 : Below (wd).heap.size (wd) w17 := by rw [e17]; exact below_alloc (Below.refl _ _) _
      refine hK.out _ _ ?_ (fun hHeld => ?_)
      · have h := kept8_below (by assumption) b17; rw [e17] at h; exact h
      clear hK K
      have sp17 : Slot W0.heap.size w17 (wd).heap.size ([.int .u8 0, .int .u8 0, .int .u8 0, .int .u8 0, .int .u8 0, .int .u8 0, .int .u8 0, .int .u8 0]) 38 := by rw [e17]; exact Slot.new _ _ _ _ (kept8_size (by assumption))
      have hHeld' := hHeld
      clear hHeld
      rw [← e17] at hHeld' ⊢
      have hHeld := hHeld'
      clear hHeld' e17
      try simp only [Act.put, List.setIfInBounds_toArray, List.set_cons_zero, List.set_cons_succ]
      refine wpAnyH_ready (rs := [2, 7]) (by kernel_rfl) (by simp) ?_
      refine AllReadyH.cons rfl (fun K hK => ?_) (AllReadyH.cons rfl (fun K hK => ?_) (AllReadyH.nil))
      · simp only [List.getElem_toArray, List.getElem_cons_succ, List.getElem_cons_zero]
        go_simp
        refine (cA.out _).mono ?_
        rintro e w18 ⟨rfl, b18⟩
        go_wp2_with fail
        refine hK.out _ _ ?_ (fun hHeld => ?_)
        · exact kept8_below (by assumption) b18
        clear hK K
        have sp18 := sp17.later b18
        try simp only [Act.put, List.setIfInBounds_toArray, List.set_cons_zero, List.set_cons_succ]
        refine wpAnyH_ready (rs := [5, 7]) (by kernel_rfl) (by simp) ?_
        refine AllReadyH.cons rfl (fun K hK => ?_) (AllReadyH.cons rfl (fun K hK => ?_) (AllReadyH.nil))
        · simp only [List.getElem_toArray, List.getElem_cons_succ, List.getElem_cons_zero]
          go_simp
          refine (cB.out _).mono ?_
          rintro e w19 ⟨rfl, b19⟩
          go_wp2_with fail
          refine hK.out _ _ ?_ (fun hHeld => ?_)
          · exact kept8_below (by assumption) b19
          clear hK K
          have sp19 := sp18.later b19
          try simp only [Act.put, List.setIfInBounds_toArray, List.set_cons_zero, List.set_cons_succ]
          refine wpAnyH_ready (rs := [7]) (by kernel_rfl) (by simp) ?_
          refine AllReadyH.cons rfl (fun K hK => ?_) (AllReadyH.nil)
          · simp only [List.getElem_toArray, List.getElem_cons_succ, List.getElem_cons_zero]
            go_simp
            obtain ⟨w20, e20⟩ : ∃ w20, w20 = (w19).alloc (.cells ([.int .u8 0, .int .u8 0, .int .u8 0, .int .u8 0, .int .u8 0, .int .u8 0, .int .u8 0, .int .u8 0]).toArray 38) := ⟨_, rfl⟩
            have b20 : Below (w19).heap.size (w19) w20 := by rw [e20]; exact below_alloc (Below.refl _ _) _
            refine hK.out _ _ ?_ (fun hHeld => ?_)
            · have h := kept8_below (by assumption) b20; rw [e20] at h; exact h
            clear hK K
            have sq20 : Slot W0.heap.size w20 (w19).heap.size ([.int .u8 0, .int .u8 0, .int .u8 0, .int .u8 0, .int .u8 0, .int .u8 0, .int .u8 0, .int .u8 0]) 38 := by rw [e20]; exact Slot.new _ _ _ _ (kept8_size (by assumption))
            have hHeld' := hHeld
            clear hHeld
            have sp20 := sp19.later b20
            have nepq : (wd).heap.size ≠ (w19).heap.size := Nat.ne_of_lt sp19.lt
            rw [← e20] at hHeld' ⊢
            have hHeld := hHeld'
            clear hHeld' e20
            try simp only [Act.put, List.setIfInBounds_toArray, List.set_cons_zero, List.set_cons_succ]
            refine wpAnyH_ready (rs := [8]) (by kernel_rfl) (by simp) ?_
            refine AllReadyH.cons rfl (fun K hK => ?_) AllReadyH.nil
            rw [if_pos (by rfl)]
            refine wp_store_row _ _ _ rfl (wd).heap.size A.toArray rfl rfl _ _ sp20.2 (by rw [List.size_toArray, hA]; rfl) (by rw [List.size_toArray, List.size_toArray, hA]; rfl) oA.out ?_
            refine hK.out _ _ ?_ (fun hHeld => ?_)
            · exact kept8_row (by assumption) sp20.1 hp
            clear hK K
            try simp only [Act.put, List.setIfInBounds_toArray, List.set_cons_zero, List.set_cons_succ]
            have ne1 : (w19).heap.size ≠ (wd).heap.size := by first | exact nepq | exact nepq.symm | exact neqp | exact neqp.symm
            have t5 := Slot.row A sp20
            have t6 := Slot.rowOther (cs' := A.toArray) sq20 ne1
            refine wpAnyH_ready (rs := [9]) (by kernel_rfl) (by simp) ?_
            refine AllReadyH.cons rfl (fun K hK => ?_) AllReadyH.nil
            rw [if_pos (by rfl)]
            refine wp_store_row _ _ _ rfl (w19).heap.size B.toArray rfl rfl _ _ t6.2 (by rw [List.size_toArray, hB]; rfl) (by rw [List.size_toArray, List.size_toArray, hB]; rfl) oB.out ?_
            refine hK.out _ _ ?_ (fun hHeld => ?_)
            · exact kept8_row (by assumption) t6.1 hp
            clear hK K
            try simp only [Act.put, List.setIfInBounds_toArray, List.set_cons_zero, List.set_cons_succ]
            have v6 := Slot.row B t6
            have v5 := Slot.rowOther (cs' := B.toArray) t5 ne1.symm
            refine wpAnyH_done (by kernel_rfl) ?_ _
            go_wp2_with fail
            go_meet
            case rel => exact ⟨_, _, rfl, rfl, hHeld.1, v5, v6⟩
        · simp only [List.getElem_toArray, List.getElem_cons_succ, List.getElem_cons_zero]
          go_simp
          obtain ⟨w21, e21⟩ : ∃ w21, w21 = (w18).alloc (.cells ([.int .u8 0, .int .u8 0, .int .u8 0, .int .u8 0, .int .u8 0, .int .u8 0, .int .u8 0, .int .u8 0]).toArray 38) := ⟨_, rfl⟩
          have b21 : Below (w18).heap.size (w18) w21 := by rw [e21]; exact below_alloc (Below.refl _ _) _
          refine hK.out _ _ ?_ (fun hHeld => ?_)
          · have h := kept8_below (by assumption) b21; rw [e21] at h; exact h
          clear hK K
          have sq21 : Slot W0.heap.size w21 (w18).heap.size ([.int .u8 0, .int .u8 0, .int .u8 0, .int .u8 0, .int .u8 0, .int .u8 0, .int .u8 0, .int .u8 0]) 38 := by rw [e21]; exact Slot.new _ _ _ _ (kept8_size (by assumption))
          have hHeld' := hHeld
          clear hHeld
          have sp21 := sp18.later b21
          have nepq : (wd).heap.size ≠ (w18).heap.size := Nat.ne_of_lt sp18.lt
          rw [← e21] at hHeld' ⊢
          have hHeld := hHeld'
          clear hHeld' e21
          try simp only [Act.put, List.setIfInBounds_toArray, List.set_cons_zero, List.set_cons_succ]
          refine wpAnyH_ready (rs := [5]) (by kernel_rfl) (by simp) ?_
          refine AllReadyH.cons rfl (fun K hK => ?_) (AllReadyH.nil)
          · simp only [List.getElem_toArray, List.getElem_cons_succ, List.getElem_cons_zero]
            go_simp
            refine (cB.out _).mono ?_
            rintro e w22 ⟨rfl, b22⟩
            go_wp2_with fail
            refine hK.out _ _ ?_ (fun hHeld => ?_)
            · exact kept8_below (by assumption) b22
            clear hK K
            have sp22 := sp21.later b22
            have sq22 := sq21.later b22
            try simp only [Act.put, List.setIfInBounds_toArray, List.set_cons_zero, List.set_cons_succ]
            refine wpAnyH_ready (rs := [8]) (by kernel_rfl) (by simp) ?_
            refine AllReadyH.cons rfl (fun K hK => ?_) AllReadyH.nil
            rw [if_pos (by rfl)]
            refine wp_store_row _ _ _ rfl (wd).heap.size A.toArray rfl rfl _ _ sp22.2 (by rw [List.size_toArray, hA]; rfl) (by rw [List.size_toArray, List.size_toArray, hA]; rfl) oA.out ?_
            refine hK.out _ _ ?_ (fun hHeld => ?_)
            · exact kept8_row (by assumption) sp22.1 hp
            clear hK K
            try simp only [Act.put, List.setIfInBounds_toArray, List.set_cons_zero, List.set_cons_succ]
            have ne1 : (w18).heap.size ≠ (wd).heap.size := by first | exact nepq | exact nepq.symm | exact neqp | exact neqp.symm
            have t5 := Slot.row A sp22
            have t6 := Slot.rowOther (cs' := A.toArray) sq22 ne1
            refine wpAnyH_ready (rs := [9]) (by kernel_rfl) (by simp) ?_
            refine AllReadyH.cons rfl (fun K hK => ?_) AllReadyH.nil
            rw [if_pos (by rfl)]
            refine wp_store_row _ _ _ rfl (w18).heap.size B.toArray rfl rfl _ _ t6.2 (by rw [List.size_toArray, hB]; rfl) (by rw [List.size_toArray, List.size_toArray, hB]; rfl) oB.out ?_
            refine hK.out _ _ ?_ (fun hHeld => ?_)
            · exact kept8_row (by assumption) t6.1 hp
            clear hK K
            try simp only [Act.put, List.setIfInBounds_toArray, List.set_cons_zero, List.set_cons_succ]
            have v6 := Slot.row B t6
            have v5 := Slot.rowOther (cs' := B.toArray) t5 ne1.symm
            refine wpAnyH_done (by kernel_rfl) ?_ _
            go_wp2_with fail
            go_meet
            case rel => exact ⟨_, _, rfl, rfl, hHeld.1, v5, v6⟩
      · simp only [List.getElem_toArray, List.getElem_cons_succ, List.getElem_cons_zero]
        go_simp
        obtain ⟨w23, e23⟩ : ∃ w23, w23 = (w17).alloc (.cells ([.int .u8 0, .int .u8 0, .int .u8 0, .int .u8 0, .int .u8 0, .int .u8 0, .int .u8 0, .int .u8 0]).toArray 38) := ⟨_, rfl⟩
        have b23 : Below (w17).heap.size (w17) w23 := by rw [e23]; exact below_alloc (Below.refl _ _) _
        refine hK.out _ _ ?_ (fun hHeld => ?_)
        · have h := kept8_below (by assumption) b23; rw [e23] at h; exact h
        clear hK K
        have sq23 : Slot W0.heap.size w23 (w17).heap.size ([.int .u8 0, .int .u8 0, .int .u8 0, .int .u8 0, .int .u8 0, .int .u8 0, .int .u8 0, .int .u8 0]) 38 := by rw [e23]; exact Slot.new _ _ _ _ (kept8_size (by assumption))
        have hHeld' := hHeld
        clear hHeld
        have sp23 := sp17.later b23
        have nepq : (wd).heap.size ≠ (w17).heap.size := Nat.ne_of_lt sp17.lt
        rw [← e23] at hHeld' ⊢
        have hHeld := hHeld'
        clear hHeld' e23
        try simp only [Act.put, List.setIfInBounds_toArray, List.set_cons_zero, List.set_cons_succ]
        refine wpAnyH_ready (rs := [2]) (by kernel_rfl) (by simp) ?_
        refine AllReadyH.cons rfl (fun K hK => ?_) (AllReadyH.nil)
        · simp only [List.getElem_toArray, List.getElem_cons_succ, List.getElem_cons_zero]
          go_simp
          refine (cA.out _).mono ?_
          rintro e w24 ⟨rfl, b24⟩
          go_wp2_with fail
          refine hK.out _ _ ?_ (fun hHeld => ?_)
          · exact kept8_below (by assumption) b24
          clear hK K
          have sp24 := sp23.later b24
          have sq24 := sq23.later b24
          try simp only [Act.put, List.setIfInBounds_toArray, List.set_cons_zero, List.set_cons_succ]
          refine wpAnyH_ready (rs := [5]) (by kernel_rfl) (by simp) ?_
          refine AllReadyH.cons rfl (fun K hK => ?_) (AllReadyH.nil)
          · simp only [List.getElem_toArray, List.getElem_cons_succ, List.getElem_cons_zero]
            go_simp
            refine (cB.out _).mono ?_
            rintro e w25 ⟨rfl, b25⟩
            go_wp2_with fail
            refine hK.out _ _ ?_ (fun hHeld => ?_)
            · exact kept8_below (by assumption) b25
            clear hK K
            have sp25 := sp24.later b25
            have sq25 := sq24.later b25
            try simp only [Act.put, List.setIfInBounds_toArray, List.set_cons_zero, List.set_cons_succ]
            refine wpAnyH_ready (rs := [8]) (by kernel_rfl) (by simp) ?_
            refine AllReadyH.cons rfl (fun K hK => ?_) AllReadyH.nil
            rw [if_pos (by rfl)]
            refine wp_store_row _ _ _ rfl (wd).heap.size A.toArray rfl rfl _ _ sp25.2 (by rw [List.size_toArray, hA]; rfl) (by rw [List.size_toArray, List.size_toArray, hA]; rfl) oA.out ?_
            refine hK.out _ _ ?_ (fun hHeld => ?_)
            · exact kept8_row (by assumption) sp25.1 hp
            clear hK K
            try simp only [Act.put, List.setIfInBounds_toArray, List.set_cons_zero, List.set_cons_succ]
            have ne1 : (w17).heap.size ≠ (wd).heap.size := by first | exact nepq | exact nepq.symm | exact neqp | exact neqp.symm
            have t5 := Slot.row A sp25
            have t6 := Slot.rowOther (cs' := A.toArray) sq25 ne1
            refine wpAnyH_ready (rs := [9]) (by kernel_rfl) (by simp) ?_
            refine AllReadyH.cons rfl (fun K hK => ?_) AllReadyH.nil
            rw [if_pos (by rfl)]
            refine wp_store_row _ _ _ rfl (w17).heap.size B.toArray rfl rfl _ _ t6.2 (by rw [List.size_toArray, hB]; rfl) (by rw [List.size_toArray, List.size_toArray, hB]; rfl) oB.out ?_
            refine hK.out _ _ ?_ (fun hHeld => ?_)
            · exact kept8_row (by assumption) t6.1 hp
            clear hK K
            try simp only [Act.put, List.setIfInBounds_toArray, List.set_cons_zero, List.set_cons_succ]
            have v6 := Slot.row B t6
            have v5 := Slot.rowOther (cs' := B.toArray) t5 ne1.symm
            refine wpAnyH_done (by kernel_rfl) ?_ _
            go_wp2_with fail
            go_meet
            case rel => exact ⟨_, _, rfl, rfl, hHeld.1, v5, v6⟩
    · simp only [List.getElem_toArray, List.getElem_cons_succ, List.getElem_cons_zero]
      go_simp
      obtain ⟨w26, e26⟩ : ∃ w26, w26 = (wd).alloc (.cells ([.int .u8 0, .int .u8 0, .int .u8 0, .int .u8 0, .int .u8 0, .int .u8 0, .int .u8 0, .int .u8 0]).toArray 38) := ⟨_, rfl⟩
      have b26 : Below (wd).heap.size (wd) w26 := by rw [e26]; exact below_alloc (Below.refl _ _) _
      refine hK.out _ _ ?_ (fun hHeld => ?_)
      · have h := kept8_below (by assumption) b26; rw [e26] at h; exact h
      clear hK K
      have sq26 : Slot W0.heap.size w26 (wd).heap.size ([.int .u8 0, .int .u8 0, .int .u8 0, .int .u8 0, .int .u8 0, .int .u8 0, .int .u8 0, .int .u8 0]) 38 := by rw [e26]; exact Slot.new _ _ _ _ (kept8_size (by assumption))
      have hHeld' := hHeld
      clear hHeld
      rw [← e26] at hHeld' ⊢
      have hHeld := hHeld'
      clear hHeld' e26
      try simp only [Act.put, List.setIfInBounds_toArray, List.set_cons_zero, List.set_cons_succ]
      refine wpAnyH_ready (rs := [2, 6]) (by kernel_rfl) (by simp) ?_
      refine AllReadyH.cons rfl (fun K hK => ?_) (AllReadyH.cons rfl (fun K hK => ?_) (AllReadyH.nil))
      · simp only [List.getElem_toArray, List.getElem_cons_succ, List.getElem_cons_zero]
        go_simp
        refine (cA.out _).mono ?_
        rintro e w27 ⟨rfl, b27⟩
        go_wp2_with fail
        refine hK.out _ _ ?_ (fun hHeld => ?_)
        · exact kept8_below (by assumption) b27
        clear hK K
        have sq27 := sq26.later b27
        try simp only [Act.put, List.setIfInBounds_toArray, List.set_cons_zero, List.set_cons_succ]
        refine wpAnyH_ready (rs := [5, 6]) (by kernel_rfl) (by simp) ?_
        refine AllReadyH.cons rfl (fun K hK => ?_) (AllReadyH.cons rfl (fun K hK => ?_) (AllReadyH.nil))
        · simp only [List.getElem_toArray, List.getElem_cons_succ, List.getElem_cons_zero]
          go_simp
          refine (cB.out _).mono ?_
          rintro e w28 ⟨rfl, b28⟩
          go_wp2_with fail
          refine hK.out _ _ ?_ (fun hHeld => ?_)
          · exact kept8_below (by assumption) b28
          clear hK K
          have sq28 := sq27.later b28
          try simp only [Act.put, List.setIfInBounds_toArray, List.set_cons_zero, List.set_cons_succ]
          refine wpAnyH_ready (rs := [6]) (by kernel_rfl) (by simp) ?_
          refine AllReadyH.cons rfl (fun K hK => ?_) (AllReadyH.nil)
          · simp only [List.getElem_toArray, List.getElem_cons_succ, List.getElem_cons_zero]
            go_simp
            obtain ⟨w29, e29⟩ : ∃ w29, w29 = (w28).alloc (.cells ([.int .u8 0, .int .u8 0, .int .u8 0, .int .u8 0, .int .u8 0, .int .u8 0, .int .u8 0, .int .u8 0]).toArray 38) := ⟨_, rfl⟩
            have b29 : Below (w28).heap.size (w28) w29 := by rw [e29]; exact below_alloc (Below.refl _ _) _
            refine hK.out _ _ ?_ (fun hHeld => ?_)
            · have h := kept8_below (by assumption) b29; rw [e29] at h; exact h
            clear hK K
            have sp29 : Slot W0.heap.size w29 (w28).heap.size ([.int .u8 0, .int .u8 0, .int .u8 0, .int .u8 0, .int .u8 0, .int .u8 0, .int .u8 0, .int .u8 0]) 38 := by rw [e29]; exact Slot.new _ _ _ _ (kept8_size (by assumption))
            have hHeld' := hHeld
            clear hHeld
            have sq29 := sq28.later b29
            have neqp : (wd).heap.size ≠ (w28).heap.size := Nat.ne_of_lt sq28.lt
            rw [← e29] at hHeld' ⊢
            have hHeld := hHeld'
            clear hHeld' e29
            try simp only [Act.put, List.setIfInBounds_toArray, List.set_cons_zero, List.set_cons_succ]
            refine wpAnyH_ready (rs := [8]) (by kernel_rfl) (by simp) ?_
            refine AllReadyH.cons rfl (fun K hK => ?_) AllReadyH.nil
            rw [if_pos (by rfl)]
            refine wp_store_row _ _ _ rfl (w28).heap.size A.toArray rfl rfl _ _ sp29.2 (by rw [List.size_toArray, hA]; rfl) (by rw [List.size_toArray, List.size_toArray, hA]; rfl) oA.out ?_
            refine hK.out _ _ ?_ (fun hHeld => ?_)
            · exact kept8_row (by assumption) sp29.1 hp
            clear hK K
            try simp only [Act.put, List.setIfInBounds_toArray, List.set_cons_zero, List.set_cons_succ]
            have ne1 : (wd).heap.size ≠ (w28).heap.size := by first | exact nepq | exact nepq.symm | exact neqp | exact neqp.symm
            have t5 := Slot.row A sp29
            have t6 := Slot.rowOther (cs' := A.toArray) sq29 ne1
            refine wpAnyH_ready (rs := [9]) (by kernel_rfl) (by simp) ?_
            refine AllReadyH.cons rfl (fun K hK => ?_) AllReadyH.nil
            rw [if_pos (by rfl)]
            refine wp_store_row _ _ _ rfl (wd).heap.size B.toArray rfl rfl _ _ t6.2 (by rw [List.size_toArray, hB]; rfl) (by rw [List.size_toArray, List.size_toArray, hB]; rfl) oB.out ?_
            refine hK.out _ _ ?_ (fun hHeld => ?_)
            · exact kept8_row (by assumption) t6.1 hp
            clear hK K
            try simp only [Act.put, List.setIfInBounds_toArray, List.set_cons_zero, List.set_cons_succ]
            have v6 := Slot.row B t6
            have v5 := Slot.rowOther (cs' := B.toArray) t5 ne1.symm
            refine wpAnyH_done (by kernel_rfl) ?_ _
            go_wp2_with fail
            go_meet
            case rel => exact ⟨_, _, rfl, rfl, hHeld.1, v5, v6⟩
        · simp only [List.getElem_toArray, List.getElem_cons_succ, List.getElem_cons_zero]
          go_simp
          obtain ⟨w30, e30⟩ : ∃ w30, w30 = (w27).alloc (.cells ([.int .u8 0, .int .u8 0, .int .u8 0, .int .u8 0, .int .u8 0, .int .u8 0, .int .u8 0, .int .u8 0]).toArray 38) := ⟨_, rfl⟩
          have b30 : Below (w27).heap.size (w27) w30 := by rw [e30]; exact below_alloc (Below.refl _ _) _
          refine hK.out _ _ ?_ (fun hHeld => ?_)
          · have h := kept8_below (by assumption) b30; rw [e30] at h; exact h
          clear hK K
          have sp30 : Slot W0.heap.size w30 (w27).heap.size ([.int .u8 0, .int .u8 0, .int .u8 0, .int .u8 0, .int .u8 0, .int .u8 0, .int .u8 0, .int .u8 0]) 38 := by rw [e30]; exact Slot.new _ _ _ _ (kept8_size (by assumption))
          have hHeld' := hHeld
          clear hHeld
          have sq30 := sq27.later b30
          have neqp : (wd).heap.size ≠ (w27).heap.size := Nat.ne_of_lt sq27.lt
          rw [← e30] at hHeld' ⊢
          have hHeld := hHeld'
          clear hHeld' e30
          try simp only [Act.put, List.setIfInBounds_toArray, List.set_cons_zero, List.set_cons_succ]
          refine wpAnyH_ready (rs := [5]) (by kernel_rfl) (by simp) ?_
          refine AllReadyH.cons rfl (fun K hK => ?_) (AllReadyH.nil)
          · simp only [List.getElem_toArray, List.getElem_cons_succ, List.getElem_cons_zero]
            go_simp
            refine (cB.out _).mono ?_
            rintro e w31 ⟨rfl, b31⟩
            go_wp2_with fail
            refine hK.out _ _ ?_ (fun hHeld => ?_)
            · exact kept8_below (by assumption) b31
            clear hK K
            have sq31 := sq30.later b31
            have sp31 := sp30.later b31
            try simp only [Act.put, List.setIfInBounds_toArray, List.set_cons_zero, List.set_cons_succ]
            refine wpAnyH_ready (rs := [8]) (by kernel_rfl) (by simp) ?_
            refine AllReadyH.cons rfl (fun K hK => ?_) AllReadyH.nil
            rw [if_pos (by rfl)]
            refine wp_store_row _ _ _ rfl (w27).heap.size A.toArray rfl rfl _ _ sp31.2 (by rw [List.size_toArray, hA]; rfl) (by rw [List.size_toArray, List.size_toArray, hA]; rfl) oA.out ?_
            refine hK.out _ _ ?_ (fun hHeld => ?_)
            · exact kept8_row (by assumption) sp31.1 hp
            clear hK K
            try simp only [Act.put, List.setIfInBounds_toArray, List.set_cons_zero, List.set_cons_succ]
            have ne1 : (wd).heap.size ≠ (w27).heap.size := by first | exact nepq | exact nepq.symm | exact neqp | exact neqp.symm
            have t5 := Slot.row A sp31
            have t6 := Slot.rowOther (cs' := A.toArray) sq31 ne1
            refine wpAnyH_ready (rs := [9]) (by kernel_rfl) (by simp) ?_
            refine AllReadyH.cons rfl (fun K hK => ?_) AllReadyH.nil
            rw [if_pos (by rfl)]
            refine wp_store_row _ _ _ rfl (wd).heap.size B.toArray rfl rfl _ _ t6.2 (by rw [List.size_toArray, hB]; rfl) (by rw [List.size_toArray, List.size_toArray, hB]; rfl) oB.out ?_
            refine hK.out _ _ ?_ (fun hHeld => ?_)
            · exact kept8_row (by assumption) t6.1 hp
            clear hK K
            try simp only [Act.put, List.setIfInBounds_toArray, List.set_cons_zero, List.set_cons_succ]
            have v6 := Slot.row B t6
            have v5 := Slot.rowOther (cs' := B.toArray) t5 ne1.symm
            refine wpAnyH_done (by kernel_rfl) ?_ _
            go_wp2_with fail
            go_meet
            case rel => exact ⟨_, _, rfl, rfl, hHeld.1, v5, v6⟩
      · simp only [List.getElem_toArray, List.getElem_cons_succ, List.getElem_cons_zero]
        go_simp
        obtain ⟨w32, e32⟩ : ∃ w32, w32 = (w26).alloc (.cells ([.int .u8 0, .int .u8 0, .int .u8 0, .int .u8 0, .int .u8 0, .int .u8 0, .int .u8 0, .int .u8 0]).toArray 38) := ⟨_, rfl⟩
        have b32 : Below (w26).heap.size (w26) w32 := by rw [e32]; exact below_alloc (Below.refl _ _) _
        refine hK.out _ _ ?_ (fun hHeld => ?_)
        · have h := kept8_below (by assumption) b32; rw [e32] at h; exact h
        clear hK K
        have sp32 : Slot W0.heap.size w32 (w26).heap.size ([.int .u8 0, .int .u8 0, .int .u8 0, .int .u8 0, .int .u8 0, .int .u8 0, .int .u8 0, .int .u8 0]) 38 := by rw [e32]; exact Slot.new _ _ _ _ (kept8_size (by assumption))
        have hHeld' := hHeld
        clear hHeld
        have sq32 := sq26.later b32
        have neqp : (wd).heap.size ≠ (w26).heap.size := Nat.ne_of_lt sq26.lt
        rw [← e32] at hHeld' ⊢
        have hHeld := hHeld'
        clear hHeld' e32
        try simp only [Act.put, List.setIfInBounds_toArray, List.set_cons_zero, List.set_cons_succ]
        refine wpAnyH_ready (rs := [2]) (by kernel_rfl) (by simp) ?_
        refine AllReadyH.cons rfl (fun K hK => ?_) (AllReadyH.nil)
        · simp only [List.getElem_toArray, List.getElem_cons_succ, List.getElem_cons_zero]
          go_simp
          refine (cA.out _).mono ?_
          rintro e w33 ⟨rfl, b33⟩
          go_wp2_with fail
          refine hK.out _ _ ?_ (fun hHeld => ?_)
          · exact kept8_below (by assumption) b33
          clear hK K
          have sq33 := sq32.later b33
          have sp33 := sp32.later b33
          try simp only [Act.put, List.setIfInBounds_toArray, List.set_cons_zero, List.set_cons_succ]
          refine wpAnyH_ready (rs := [5]) (by kernel_rfl) (by simp) ?_
          refine AllReadyH.cons rfl (fun K hK => ?_) (AllReadyH.nil)
          · simp only [List.getElem_toArray, List.getElem_cons_succ, List.getElem_cons_zero]
            go_simp
            refine (cB.out _).mono ?_
            rintro e w34 ⟨rfl, b34⟩
            go_wp2_with fail
            refine hK.out _ _ ?_ (fun hHeld => ?_)
            · exact kept8_below (by assumption) b34
            clear hK K
            have sq34 := sq33.later b34
            have sp34 := sp33.later b34
            try simp only [Act.put, List.setIfInBounds_toArray, List.set_cons_zero, List.set_cons_succ]
            refine wpAnyH_ready (rs := [8]) (by kernel_rfl) (by simp) ?_
            refine AllReadyH.cons rfl (fun K hK => ?_) AllReadyH.nil
            rw [if_pos (by rfl)]
            refine wp_store_row _ _ _ rfl (w26).heap.size A.toArray rfl rfl _ _ sp34.2 (by rw [List.size_toArray, hA]; rfl) (by rw [List.size_toArray, List.size_toArray, hA]; rfl) oA.out ?_
            refine hK.out _ _ ?_ (fun hHeld => ?_)
            · exact kept8_row (by assumption) sp34.1 hp
            clear hK K
            try simp only [Act.put, List.setIfInBounds_toArray, List.set_cons_zero, List.set_cons_succ]
            have ne1 : (wd).heap.size ≠ (w26).heap.size := by first | exact nepq | exact nepq.symm | exact neqp | exact neqp.symm
            have t5 := Slot.row A sp34
            have t6 := Slot.rowOther (cs' := A.toArray) sq34 ne1
            refine wpAnyH_ready (rs := [9]) (by kernel_rfl) (by simp) ?_
            refine AllReadyH.cons rfl (fun K hK => ?_) AllReadyH.nil
            rw [if_pos (by rfl)]
            refine wp_store_row _ _ _ rfl (wd).heap.size B.toArray rfl rfl _ _ t6.2 (by rw [List.size_toArray, hB]; rfl) (by rw [List.size_toArray, List.size_toArray, hB]; rfl) oB.out ?_
            refine hK.out _ _ ?_ (fun hHeld => ?_)
            · exact kept8_row (by assumption) t6.1 hp
            clear hK K
            try simp only [Act.put, List.setIfInBounds_toArray, List.set_cons_zero, List.set_cons_succ]
            have v6 := Slot.row B t6
            have v5 := Slot.rowOther (cs' := B.toArray) t5 ne1.symm
            refine wpAnyH_done (by kernel_rfl) ?_ _
            go_wp2_with fail
            go_meet
            case rel => exact ⟨_, _, rfl, rfl, hHeld.1, v5, v6⟩
  case rest =>
    obtain ⟨g, h, rfl, rfl, b0, s1, s2⟩ := hcut
    go_wp2_with fail
    obtain ⟨w2, e2⟩ : ∃ w2, w2 = (wc.alloc (.cells Z0.toArray 27)).drew := ⟨_, rfl⟩
    have r0 : w2.heap[wc.heap.size]? = some (.cells Z0.toArray 27 (0, 0)) := by rw [e2, heap_drew]; exact heap_alloc_new _ _
    have b2 : Below wc.heap.size wc w2 := by rw [e2]; exact (below_alloc (Below.refl _ _) _).drew
    have d1 := s1.later b2
    have d2 := s2.later b2
    have n1 := s1.lt
    have n2 := s2.lt
    have hcp := copy_half w2 wc.heap.size g 0 16 Z0 A _ _ r0 d1.2 hA (by rw [HL.out]; decide) (all_one oA.out)
    obtain ⟨V1, hV1⟩ : ∃ V1, V1 = Z0.take 0 ++ A ++ Z0.drop (0 + 8) := ⟨_, rfl⟩
    rw [← hV1] at hcp
    have l1 : V1.length = 16 := by rw [hV1]; simp [hA, HL.out]
    have d3 : Slot W0.heap.size (w2.setRow wc.heap.size V1.toArray) h B 38 := Slot.rowOther d2 (Nat.ne_of_lt n2)
    have r1 : (w2.setRow wc.heap.size V1.toArray).heap[wc.heap.size]? = some (.cells V1.toArray 27 (0, 0)) := setRow_heap _ _ _ _ _ _ r0
    have b3 : Below wc.heap.size wc (w2.setRow wc.heap.size V1.toArray) := below_setRow b2 (Nat.le_refl _) _
    obtain ⟨w3, e3⟩ : ∃ w3, w3 = w2.setRow wc.heap.size V1.toArray := ⟨_, rfl⟩
    rw [← e3] at hcp d3 r1 b3
    obtain ⟨w4, e4⟩ : ∃ w4, w4 = w3.drew := ⟨_, rfl⟩
    have b4 : Below wc.heap.size wc w4 := by rw [e4]; exact b3.drew
    have r4 : w4.heap[wc.heap.size]? = some (.cells V1.toArray 27 (0, 0)) := by rw [e4]; exact r1
    have d4 : w4.heap[h]? = some (.cells B.toArray 38 (0, 0)) := by rw [e4]; exact d3.2
    have hcp2 := copy_half w4 wc.heap.size h 8 8 V1 B _ _ r4 d4 hB (by rw [l1]; decide) (all_one oB.out)
    have hV2 : V1.take 8 ++ B ++ V1.drop (8 + 8) = A ++ B := by
      rw [hV1]; simp [hA, HL.out]
    rw [hV2] at hcp2
    have hV := HV.out
    have hlen : V.size = 16 := by rw [hV]; simp [hA, hB]
    have HO : Hid (V.all (·.oneCell') = true) := by
      rw [hV]; show _ = _; rw [Array.all_eq_true]; intro i hi; exact one_app (all_one oA.out) (all_one oB.out) _ (Array.getElem_mem hi)
    rw [← hV] at hcp2
    have r5 : (w4.setRow wc.heap.size V).heap[wc.heap.size]? = some (.cells V 27 (0, 0)) := setRow_heap _ _ _ _ _ _ r4
    have b5 : Below wc.heap.size wc (w4.setRow wc.heap.size V) := below_setRow b4 (Nat.le_refl _) _
    have b6 := below_two b0 b5
    have ro5 : (w4.setRow wc.heap.size V).heap[w.heap.size + 1]? = some (.cells Z0.toArray 27 (0, 0)) := (b6.block _ (by rw [HS.out]; omega)).trans RO.out
    obtain ⟨w5, e5⟩ : ∃ w5, w5 = w4.setRow wc.heap.size V := ⟨_, rfl⟩
    rw [← e5] at hcp2 r5 b6 ro5
    have b7 := below_two BW.out b6
    have zl : Z0.toArray.size = 16 := by rw [List.size_toArray]; exact HL.out
    have HE4 := hide e4
    have HE2 := hide e2
    clear r0 b2 d1 d2 n1 n2 hV1 l1 d3 r1 b3 e3 e4 b4 r4 d4 hV2 hV b5 e5 b0 s1 s2 b6 c0 c1 hz e2
    refine wp_region_held_drew (S := fun _ => True) (by kernel_rfl) trivial (fun hHeld => ?_)
    rw [← HE2.out]
    refine wpAnyH_take (i := 0) (v := ?_) rfl (by kernel_rfl) (by kernel_rfl) (by kernel_rfl) (fun _ _ _ h => h) (Or.inl ⟨by rfl, ?_⟩) (by assumption) ?_
    rotate_left
    · (intro w hSw; (try dsimp only at hSw); simp only [List.getElem_toArray, List.getElem_cons_zero]; go_simp; try with_reducible rfl)
    simp only [Act.put, List.getElem_toArray, List.getElem_cons_zero, List.setIfInBounds_toArray, List.set_cons_zero, List.set_cons_succ]
    refine wpAnyH_take (i := 1) (v := ?_) rfl (by kernel_rfl) (by kernel_rfl) (by kernel_rfl) (fun _ _ _ h => h) (Or.inl ⟨by rfl, ?_⟩) (by assumption) ?_
    rotate_left
    · (intro w hSw; (try dsimp only at hSw); simp only [List.getElem_toArray, List.getElem_cons_succ, List.getElem_cons_zero]; go_simp; try with_reducible rfl)
    simp only [Act.put, List.getElem_toArray, List.getElem_cons_succ, List.getElem_cons_zero, List.setIfInBounds_toArray, List.set_cons_zero, List.set_cons_succ]
    refine wpAnyH_ready (rs := [2]) (by kernel_rfl) (by simp) ?_
    refine AllReadyH.cons rfl (fun K hK => ?_) AllReadyH.nil
    simp only [List.getElem_toArray, List.getElem_cons_succ, List.getElem_cons_zero]
    go_simp
    refine hK.out _ _ trivial (fun _ => ?_)
    clear hK K
    try simp only [Act.put, List.setIfInBounds_toArray, List.set_cons_zero, List.set_cons_succ]
    refine wpAnyH_done (by kernel_rfl) ?_ _
    go_wp2_with fail
    refine wp_region_held_drew (S := fun _ => True) (by kernel_rfl) trivial (fun hHeld => ?_)
    rw [← HE4.out]
    refine wpAnyH_take (i := 0) (v := ?_) rfl (by kernel_rfl) (by kernel_rfl) (by kernel_rfl) (fun _ _ _ h => h) (Or.inl ⟨by rfl, ?_⟩) (by assumption) ?_
    rotate_left
    · (intro w hSw; (try dsimp only at hSw); simp only [List.getElem_toArray, List.getElem_cons_zero]; go_simp; try with_reducible rfl)
    simp only [Act.put, List.getElem_toArray, List.getElem_cons_zero, List.setIfInBounds_toArray, List.set_cons_zero, List.set_cons_succ]
    refine wpAnyH_take (i := 1) (v := ?_) rfl (by kernel_rfl) (by kernel_rfl) (by kernel_rfl) (fun _ _ _ h => h) (Or.inl ⟨by rfl, ?_⟩) (by assumption) ?_
    rotate_left
    · (intro w hSw; (try dsimp only at hSw); simp only [List.getElem_toArray, List.getElem_cons_succ, List.getElem_cons_zero]; go_simp; try with_reducible rfl)
    simp only [Act.put, List.getElem_toArray, List.getElem_cons_succ, List.getElem_cons_zero, List.setIfInBounds_toArray, List.set_cons_zero, List.set_cons_succ]
    refine wpAnyH_ready (rs := [2]) (by kernel_rfl) (by simp) ?_
    refine AllReadyH.cons rfl (fun K hK => ?_) AllReadyH.nil
    simp only [List.getElem_toArray, List.getElem_cons_succ, List.getElem_cons_zero]
    go_simp
    refine hK.out _ _ trivial (fun _ => ?_)
    clear hK K
    try simp only [Act.put, List.setIfInBounds_toArray, List.set_cons_zero, List.set_cons_succ]
    refine wpAnyH_done (by kernel_rfl) ?_ _
    go_wp2_with (first
      | (refine wpList_load_row rfl 27 _ rfl wc.heap.size rfl 27 V (0, 0) _ r5 Try.underlying27 rfl (by rw [hlen]; rfl) ?_)
      | (refine wpList_store_row rfl 27 _ _ rfl (w.heap.size + 1) V rfl rfl 27 Z0.toArray ro5 (by rw [hlen]; rfl) (by rw [zl, hlen]) HO.out ?_))
    refine bodyPost_ret (v := .agg V) (results_cell_row rfl _ _ (w.heap.size + 1) 27 V (0, 0) _ rfl (setRow_heap _ _ _ _ _ _ ro5) Try.underlying27 rfl (by rw [hlen]; rfl)) rfl ⟨rfl, ?_⟩
    exact below_setRow b7 (by omega) _
end Go.Proofs.Ytlcjkmgeaiclbaa
