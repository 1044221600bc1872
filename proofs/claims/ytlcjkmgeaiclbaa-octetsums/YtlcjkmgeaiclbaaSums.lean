/- Proved here: for all numbers of sixteen bytes a, b OctetSums returns true and leaves its arguments as they were (the sum and the difference of any two numbers of 128 bits are the reference's); no condition. -/
import Derived.Test.YtlcjkmgeaiclbaaSlot
import Derived.Test.YtlcjkmgeaiclbaaWide
namespace Go.Proofs.Ytlcjkmgeaiclbaa
open Go.ChangeShapes Go.WideShapes Go.ChangeAt Go.RowKit

theorem p_lo (x y z c : Nat) (h : x + y + 0 = z + c * 2 ^ (8 * 8)) (l : z < 18446744073709551616) (_ : c ≤ 1) : plusLo x y = z := by
  unfold plusLo; omega
theorem p_hi (x y z c x2 y2 z2 c2 : Nat) (h : x + y + 0 = z + c * 2 ^ (8 * 8)) (h2 : x2 + y2 + c = z2 + c2 * 2 ^ (8 * 8)) (l : z < 18446744073709551616) (l2 : z2 < 18446744073709551616) (_ : c ≤ 1) (_ : c2 ≤ 1) : plusHi x x2 y y2 = z2 := by
  unfold plusHi; omega
theorem m_lo (x y z c : Nat) (h : x + c * 2 ^ (8 * 8) = z + y + 0) (l : z < 18446744073709551616) (_ : c ≤ 1) : minusLo x y = z := by
  unfold minusLo; omega
theorem m_hi (x y z c x2 y2 z2 c2 : Nat) (h : x + c * 2 ^ (8 * 8) = z + y + 0) (h2 : x2 + c2 * 2 ^ (8 * 8) = z2 + y2 + c) (l : z < 18446744073709551616) (l2 : z2 < 18446744073709551616) (lx : x < 18446744073709551616) (ly : y < 18446744073709551616) (_ : c ≤ 1) (_ : c2 ≤ 1) : minusHi x x2 y y2 = z2 := by
  unfold minusHi
  by_cases hxy : x < y
  · rw [if_pos (by omega)]; omega
  · rw [if_neg (by omega)]; omega
theorem sum_lo (xs ys : List UInt8) (hx : xs.length = 16) (hy : ys.length = 16) : plusLo (num xs 0 8 : Nat) (num ys 0 8 : Nat) = (num (sumP xs ys) 0 8 : Nat) :=
  p_lo _ _ _ _ (sumP_num xs ys hx hy 0 8 (by decide)) (lo_of _) (cyP_le xs ys _)
theorem sum_hi (xs ys : List UInt8) (hx : xs.length = 16) (hy : ys.length = 16) : plusHi (num xs 0 8 : Nat) (num xs 8 8 : Nat) (num ys 0 8 : Nat) (num ys 8 8 : Nat) = (num (sumP xs ys) 8 8 : Nat) :=
  p_hi _ _ _ _ _ _ _ _ (sumP_num xs ys hx hy 0 8 (by decide)) (sumP_num xs ys hx hy 8 8 (by decide)) (lo_of _) (hi_of _) (cyP_le xs ys _) (cyP_le xs ys _)
theorem dif_lo (xs ys : List UInt8) (hx : xs.length = 16) (hy : ys.length = 16) : minusLo (num xs 0 8 : Nat) (num ys 0 8 : Nat) = (num (sumM xs ys) 0 8 : Nat) :=
  m_lo _ _ _ _ (sumM_num xs ys hx hy 0 8 (by decide)) (lo_of _) (cyM_le xs ys _)
theorem dif_hi (xs ys : List UInt8) (hx : xs.length = 16) (hy : ys.length = 16) : minusHi (num xs 0 8 : Nat) (num xs 8 8 : Nat) (num ys 0 8 : Nat) (num ys 8 8 : Nat) = (num (sumM xs ys) 8 8 : Nat) :=
  m_hi _ _ _ _ _ _ _ _ (sumM_num xs ys hx hy 0 8 (by decide)) (sumM_num xs ys hx hy 8 8 (by decide)) (lo_of _) (hi_of _) (lo_of _) (lo_of _) (cyM_le xs ys _) (cyM_le xs ys _)
theorem keep6 {W0 W W' : World} {p q : Nat} {X Y : List Value} {a b c d : Addr} {x y z u : Value} (h : Below W0.heap.size W0 W ∧ W.rangeAt p 0 X ∧ W.rangeAt q 0 Y ∧ W.cell? a = some x ∧ W.cell? b = some y ∧ W.cell? c = some z ∧ W.cell? d = some u) (hb : Below W.heap.size W W') :
    Below W0.heap.size W0 W' ∧ W'.rangeAt p 0 X ∧ W'.rangeAt q 0 Y ∧ W'.cell? a = some x ∧ W'.cell? b = some y ∧ W'.cell? c = some z ∧ W'.cell? d = some u :=
  ⟨below_two h.1 hb, fun j v hj => later hb (h.2.1 j v hj), fun j v hj => later hb (h.2.2.1 j v hj), later hb h.2.2.2.1, later hb h.2.2.2.2.1, later hb h.2.2.2.2.2.1, later hb h.2.2.2.2.2.2⟩
set_option maxHeartbeats 8000000 in
theorem sums_core (X Y S D : List Value) (al ah bl bh : Int) (w : World) (h1 : W64 al) (h2 : W64 ah) (h3 : W64 bl) (h4 : W64 bh) (hX : X.length = 16) (hY : Y.length = 16)
    (wX : Hid (∀ w, Calls Try.prog 17 #[.agg X.toArray] w fun e w' => e = .returned (.agg #[.int .u64 al, .int .u64 ah]) ∧ Below w.heap.size w w'))
    (wY : Hid (∀ w, Calls Try.prog 17 #[.agg Y.toArray] w fun e w' => e = .returned (.agg #[.int .u64 bl, .int .u64 bh]) ∧ Below w.heap.size w w'))
    (wS : Hid (∀ w, Calls Try.prog 17 #[.agg S.toArray] w fun e w' => e = .returned (.agg #[.int .u64 (plusLo al bl), .int .u64 (plusHi al ah bl bh)]) ∧ Below w.heap.size w w'))
    (wD : Hid (∀ w, Calls Try.prog 17 #[.agg D.toArray] w fun e w' => e = .returned (.agg #[.int .u64 (minusLo al bl), .int .u64 (minusHi al ah bl bh)]) ∧ Below w.heap.size w w'))
    (rP : Hid (∀ w, Calls Try.prog 25 #[.agg X.toArray, .agg Y.toArray] w fun e w' => e = .returned (.agg S.toArray) ∧ Below w.heap.size w w'))
    (rM : Hid (∀ w, Calls Try.prog 27 #[.agg X.toArray, .agg Y.toArray] w fun e w' => e = .returned (.agg D.toArray) ∧ Below w.heap.size w w')) :
    Calls Try.prog 5 #[.agg X.toArray, .agg Y.toArray] w fun e w' => e = .returned (.bool true) ∧ Below w.heap.size w w' := by
  have cP := hide (plus_any al ah bl bh h1 h2 h3 h4)
  have cM := hide (minus_any al ah bl bh h1 h2 h3 h4)
  have hun27 : Try.prog.underlying 27 = some (.array 16 5) := Try.underlying27
  have iX : (Try.prog.info? 27).map (·.size) = some X.length := by rw [hX]; rfl
  have iY : (Try.prog.info? 27).map (·.size) = some Y.length := by rw [hY]; rfl
  obtain ⟨W0, hW0⟩ : ∃ W0, W0 = (w.alloc (.cells X.toArray 27)).alloc (.cells Y.toArray 27) := ⟨_, rfl⟩
  have bw : Below w.heap.size w W0 := by rw [hW0]; exact below_alloc (below_alloc (Below.refl _ _) _) _
  have hz : W0.heap.size = w.heap.size + 1 + 1 := by rw [hW0]; simp
  have rX : W0.rangeAt w.heap.size 0 X := by
    rw [hW0]; intro j v hj
    rw [cell_of_row _ _ _ _ _ _ (heap_alloc2_old _ _ _)]; simpa using hj
  have rY : W0.rangeAt (w.heap.size + 1) 0 Y := by
    rw [hW0]; intro j v hj
    rw [cell_of_row _ _ _ _ _ _ (heap_alloc2_new _ _ _)]; simpa using hj
  have hp : w.heap.size < W0.heap.size := by omega
  have hq : w.heap.size + 1 < W0.heap.size := by omega
  have HZ := hide hz
  have BW := hide bw
  clear hz bw h1 h2 h3 h4 hX hY
  go_enter Try.func5, Try.ntmps5
  go_wp2_with fail
  rw [← hW0]
  clear hW0
  go_cut [5, 6] (fun p5 p6 wc => ∃ g h, p5 = .pointer (some ⟨g, 0, none⟩) ∧ p6 = .pointer (some ⟨h, 0, none⟩) ∧ Below W0.heap.size W0 wc ∧ wc.rangeAt w.heap.size 0 X ∧ wc.rangeAt (w.heap.size + 1) 0 Y ∧ Slot W0.heap.size wc g [.int .u64 al, .int .u64 ah] 25 ∧ Slot W0.heap.size wc h [.int .u64 bl, .int .u64 bh] 25)
  case first =>
    refine wp_region_held_drew (S := fun w' => Below W0.heap.size W0 w' ∧ w'.rangeAt w.heap.size 0 X ∧ w'.rangeAt (w.heap.size + 1) 0 Y) (by kernel_rfl) ?_ (fun hHeld => ?_)
    · exact ⟨(Below.refl _ _).drew, rX, rY⟩
    refine wpAnyH_take (i := 0) rfl (by kernel_rfl) (by kernel_rfl) (by kernel_rfl) (fun _ _ _ h => h) (yieldsIf_load_mid (by rfl) _ _ rfl _ _ rfl X _ (fun w hSw => hSw.2.1) hun27 rfl iX) (by assumption) ?_
    simp only [Act.put, List.getElem_toArray, List.getElem_cons_zero, List.setIfInBounds_toArray, List.set_cons_zero, List.set_cons_succ]
    refine wpAnyH_take (i := 2) rfl (by kernel_rfl) (by kernel_rfl) (by kernel_rfl) (fun _ _ _ h => h) (yieldsIf_load_mid (by rfl) _ _ rfl _ _ rfl Y _ (fun w hSw => hSw.2.2) hun27 rfl iY) (by assumption) ?_
    simp only [Act.put, List.getElem_toArray, List.getElem_cons_succ, List.getElem_cons_zero, List.setIfInBounds_toArray, List.set_cons_zero, List.set_cons_succ]
    have hHeld' := hHeld
    obtain ⟨wd, ed⟩ : ∃ wd, wd = W0.drew := ⟨_, rfl⟩
    rw [← ed] at hHeld' ⊢
    clear ed hHeld
    have hHeld := hHeld'
    clear hHeld'
    refine wpAnyH_ready (rs := [1, 4, 5]) (by kernel_rfl) (by simp) ?_
    refine AllReadyH.cons rfl (fun K hK => ?_) (AllReadyH.cons rfl (fun K hK => ?_) (AllReadyH.cons rfl (fun K hK => ?_) (AllReadyH.nil)))
    · simp only [List.getElem_toArray, List.getElem_cons_succ, List.getElem_cons_zero]
      go_simp
      refine (wX.out _).mono ?_
      rintro e w1 ⟨rfl, b1⟩
      go_wp2_with fail
      refine hK.out _ _ ?_ (fun hHeld => ?_)
      · exact kept_below (by assumption) b1
      clear hK K
      try simp only [Act.put, List.setIfInBounds_toArray, List.set_cons_zero, List.set_cons_succ]
      refine wpAnyH_ready (rs := [3, 4, 5]) (by kernel_rfl) (by simp) ?_
      refine AllReadyH.cons rfl (fun K hK => ?_) (AllReadyH.cons rfl (fun K hK => ?_) (AllReadyH.cons rfl (fun K hK => ?_) (AllReadyH.nil)))
      · simp only [List.getElem_toArray, List.getElem_cons_succ, List.getElem_cons_zero]
        go_simp
        refine (wY.out _).mono ?_
        rintro e w2 ⟨rfl, b2⟩
        go_wp2_with fail
        refine hK.out _ _ ?_ (fun hHeld => ?_)
        · exact kept_below (by assumption) b2
        clear hK K
        try simp only [Act.put, List.setIfInBounds_toArray, List.set_cons_zero, List.set_cons_succ]
        refine wpAnyH_ready (rs := [4, 5]) (by kernel_rfl) (by simp) ?_
        refine AllReadyH.cons rfl (fun K hK => ?_) (AllReadyH.cons rfl (fun K hK => ?_) (AllReadyH.nil))
        · simp only [List.getElem_toArray, List.getElem_cons_succ, List.getElem_cons_zero]
          go_simp
          obtain ⟨w3, e3⟩ : ∃ w3, w3 = (w2).alloc (.cells ([.int .u64 0, .int .u64 0]).toArray 25) := ⟨_, rfl⟩
          have b3 : Below (w2).heap.size (w2) w3 := by rw [e3]; exact below_alloc (Below.refl _ _) _
          refine hK.out _ _ ?_ (fun hHeld => ?_)
          · have h := kept_below (by assumption) b3; rw [e3] at h; exact h
          clear hK K
          have sp3 : Slot W0.heap.size w3 (w2).heap.size ([.int .u64 0, .int .u64 0]) 25 := by rw [e3]; exact Slot.new _ _ _ _ (kept_size (by assumption))
          have hHeld' := hHeld
          clear hHeld
          rw [← e3] at hHeld' ⊢
          have hHeld := hHeld'
          clear hHeld' e3
          try simp only [Act.put, List.setIfInBounds_toArray, List.set_cons_zero, List.set_cons_succ]
          refine wpAnyH_ready (rs := [5]) (by kernel_rfl) (by simp) ?_
          refine AllReadyH.cons rfl (fun K hK => ?_) (AllReadyH.nil)
          · simp only [List.getElem_toArray, List.getElem_cons_succ, List.getElem_cons_zero]
            go_simp
            obtain ⟨w4, e4⟩ : ∃ w4, w4 = (w3).alloc (.cells ([.int .u64 0, .int .u64 0]).toArray 25) := ⟨_, rfl⟩
            have b4 : Below (w3).heap.size (w3) w4 := by rw [e4]; exact below_alloc (Below.refl _ _) _
            refine hK.out _ _ ?_ (fun hHeld => ?_)
            · have h := kept_below (by assumption) b4; rw [e4] at h; exact h
            clear hK K
            have sq4 : Slot W0.heap.size w4 (w3).heap.size ([.int .u64 0, .int .u64 0]) 25 := by rw [e4]; exact Slot.new _ _ _ _ (kept_size (by assumption))
            have hHeld' := hHeld
            clear hHeld
            have sp4 := sp3.later b4
            have nepq : (w2).heap.size ≠ (w3).heap.size := Nat.ne_of_lt sp3.lt
            rw [← e4] at hHeld' ⊢
            have hHeld := hHeld'
            clear hHeld' e4
            try simp only [Act.put, List.setIfInBounds_toArray, List.set_cons_zero, List.set_cons_succ]
            have c0 := sp4.cell 0 _ rfl
            have c1 := sp4.cell 1 _ rfl
            have f0 := sp4.free 0
            have f1 := sp4.free 1
            refine wpAnyH_ready (rs := [6]) (by kernel_rfl) (by simp) ?_
            refine AllReadyH.cons rfl (fun K hK => ?_) AllReadyH.nil
            simp only [List.getElem_toArray, List.getElem_cons_succ, List.getElem_cons_zero]
            go_simp
            refine hK.out _ _ ?_ (fun hHeld => ?_)
            · exact kept_set (kept_set (by assumption) sp4.1 hp hq) sp4.1 hp hq
            clear hK K c0 c1 f0 f1
            try simp only [Act.put, List.setIfInBounds_toArray, List.set_cons_zero, List.set_cons_succ]
            have ne1 : (w3).heap.size ≠ (w2).heap.size := by first | exact nepq | exact nepq.symm | exact neqp | exact neqp.symm
            have t5 := Slot.set (i := 1) (v := .int .u64 ah) (Slot.set (i := 0) (v := .int .u64 al) sp4)
            have t6 := Slot.other (i := 1) (v := .int .u64 ah) (Slot.other (i := 0) (v := .int .u64 al) sq4 ne1) ne1
            have c0 := t6.cell 0 _ rfl
            have c1 := t6.cell 1 _ rfl
            have f0 := t6.free 0
            have f1 := t6.free 1
            refine wpAnyH_ready (rs := [7]) (by kernel_rfl) (by simp) ?_
            refine AllReadyH.cons rfl (fun K hK => ?_) AllReadyH.nil
            simp only [List.getElem_toArray, List.getElem_cons_succ, List.getElem_cons_zero]
            go_simp
            refine hK.out _ _ ?_ (fun hHeld => ?_)
            · exact kept_set (kept_set (by assumption) t6.1 hp hq) t6.1 hp hq
            clear hK K c0 c1 f0 f1
            try simp only [Act.put, List.setIfInBounds_toArray, List.set_cons_zero, List.set_cons_succ]
            have u6 := Slot.set (i := 1) (v := .int .u64 bh) (Slot.set (i := 0) (v := .int .u64 bl) t6)
            have u5 := Slot.other (i := 1) (v := .int .u64 bh) (Slot.other (i := 0) (v := .int .u64 bl) t5 ne1.symm) ne1.symm
            refine wpAnyH_done (by kernel_rfl) ?_ _
            go_wp2_with fail
            go_meet
            case rel => exact ⟨_, _, rfl, rfl, hHeld.1, hHeld.2.1, hHeld.2.2, u5, u6⟩
        · simp only [List.getElem_toArray, List.getElem_cons_succ, List.getElem_cons_zero]
          go_simp
          obtain ⟨w5, e5⟩ : ∃ w5, w5 = (w2).alloc (.cells ([.int .u64 0, .int .u64 0]).toArray 25) := ⟨_, rfl⟩
          have b5 : Below (w2).heap.size (w2) w5 := by rw [e5]; exact below_alloc (Below.refl _ _) _
          refine hK.out _ _ ?_ (fun hHeld => ?_)
          · have h := kept_below (by assumption) b5; rw [e5] at h; exact h
          clear hK K
          have sq5 : Slot W0.heap.size w5 (w2).heap.size ([.int .u64 0, .int .u64 0]) 25 := by rw [e5]; exact Slot.new _ _ _ _ (kept_size (by assumption))
          have hHeld' := hHeld
          clear hHeld
          rw [← e5] at hHeld' ⊢
          have hHeld := hHeld'
          clear hHeld' e5
          try simp only [Act.put, List.setIfInBounds_toArray, List.set_cons_zero, List.set_cons_succ]
          refine wpAnyH_ready (rs := [4]) (by kernel_rfl) (by simp) ?_
          refine AllReadyH.cons rfl (fun K hK => ?_) (AllReadyH.nil)
          · simp only [List.getElem_toArray, List.getElem_cons_succ, List.getElem_cons_zero]
            go_simp
            obtain ⟨w6, e6⟩ : ∃ w6, w6 = (w5).alloc (.cells ([.int .u64 0, .int .u64 0]).toArray 25) := ⟨_, rfl⟩
            have b6 : Below (w5).heap.size (w5) w6 := by rw [e6]; exact below_alloc (Below.refl _ _) _
            refine hK.out _ _ ?_ (fun hHeld => ?_)
            · have h := kept_below (by assumption) b6; rw [e6] at h; exact h
            clear hK K
            have sp6 : Slot W0.heap.size w6 (w5).heap.size ([.int .u64 0, .int .u64 0]) 25 := by rw [e6]; exact Slot.new _ _ _ _ (kept_size (by assumption))
            have hHeld' := hHeld
            clear hHeld
            have sq6 := sq5.later b6
            have neqp : (w2).heap.size ≠ (w5).heap.size := Nat.ne_of_lt sq5.lt
            rw [← e6] at hHeld' ⊢
            have hHeld := hHeld'
            clear hHeld' e6
            try simp only [Act.put, List.setIfInBounds_toArray, List.set_cons_zero, List.set_cons_succ]
            have c0 := sp6.cell 0 _ rfl
            have c1 := sp6.cell 1 _ rfl
            have f0 := sp6.free 0
            have f1 := sp6.free 1
            refine wpAnyH_ready (rs := [6]) (by kernel_rfl) (by simp) ?_
            refine AllReadyH.cons rfl (fun K hK => ?_) AllReadyH.nil
            simp only [List.getElem_toArray, List.getElem_cons_succ, List.getElem_cons_zero]
            go_simp
            refine hK.out _ _ ?_ (fun hHeld => ?_)
            · exact kept_set (kept_set (by assumption) sp6.1 hp hq) sp6.1 hp hq
            clear hK K c0 c1 f0 f1
            try simp only [Act.put, List.setIfInBounds_toArray, List.set_cons_zero, List.set_cons_succ]
            have ne1 : (w2).heap.size ≠ (w5).heap.size := by first | exact nepq | exact nepq.symm | exact neqp | exact neqp.symm
            have t5 := Slot.set (i := 1) (v := .int .u64 ah) (Slot.set (i := 0) (v := .int .u64 al) sp6)
            have t6 := Slot.other (i := 1) (v := .int .u64 ah) (Slot.other (i := 0) (v := .int .u64 al) sq6 ne1) ne1
            have c0 := t6.cell 0 _ rfl
            have c1 := t6.cell 1 _ rfl
            have f0 := t6.free 0
            have f1 := t6.free 1
            refine wpAnyH_ready (rs := [7]) (by kernel_rfl) (by simp) ?_
            refine AllReadyH.cons rfl (fun K hK => ?_) AllReadyH.nil
            simp only [List.getElem_toArray, List.getElem_cons_succ, List.getElem_cons_zero]
            go_simp
            refine hK.out _ _ ?_ (fun hHeld => ?_)
            · exact kept_set (kept_set (by assumption) t6.1 hp hq) t6.1 hp hq
            clear hK K c0 c1 f0 f1
            try simp only [Act.put, List.setIfInBounds_toArray, List.set_cons_zero, List.set_cons_succ]
            have u6 := Slot.set (i := 1) (v := .int .u64 bh) (Slot.set (i := 0) (v := .int .u64 bl) t6)
            have u5 := Slot.other (i := 1) (v := .int .u64 bh) (Slot.other (i := 0) (v := .int .u64 bl) t5 ne1.symm) ne1.symm
            refine wpAnyH_done (by kernel_rfl) ?_ _
            go_wp2_with fail
            go_meet
            case rel => exact ⟨_, _, rfl, rfl, hHeld.1, hHeld.2.1, hHeld.2.2, u5, u6⟩
      · simp only [List.getElem_toArray, List.getElem_cons_succ, List.getElem_cons_zero]
        go_simp
        obtain ⟨w7, e7⟩ : ∃ w7, w7 = (w1).alloc (.cells ([.int .u64 0, .int .u64 0]).toArray 25) := ⟨_, rfl⟩
        have b7 : Below (w1).heap.size (w1) w7 := by rw [e7]; exact below_alloc (Below.refl _ _) _
        refine hK.out _ _ ?_ (fun hHeld => ?_)
        · have h := kept_below (by assumption) b7; rw [e7] at h; exact h
        clear hK K
        have sp7 : Slot W0.heap.size w7 (w1).heap.size ([.int .u64 0, .int .u64 0]) 25 := by rw [e7]; exact Slot.new _ _ _ _ (kept_size (by assumption))
        have hHeld' := hHeld
        clear hHeld
        rw [← e7] at hHeld' ⊢
        have hHeld := hHeld'
        clear hHeld' e7
        try simp only [Act.put, List.setIfInBounds_toArray, List.set_cons_zero, List.set_cons_succ]
        refine wpAnyH_ready (rs := [3, 5]) (by kernel_rfl) (by simp) ?_
        refine AllReadyH.cons rfl (fun K hK => ?_) (AllReadyH.cons rfl (fun K hK => ?_) (AllReadyH.nil))
        · simp only [List.getElem_toArray, List.getElem_cons_succ, List.getElem_cons_zero]
          go_simp
          refine (wY.out _).mono ?_
          rintro e w8 ⟨rfl, b8⟩
          go_wp2_with fail
          refine hK.out _ _ ?_ (fun hHeld => ?_)
          · exact kept_below (by assumption) b8
          clear hK K
          have sp8 := sp7.later b8
          try simp only [Act.put, List.setIfInBounds_toArray, List.set_cons_zero, List.set_cons_succ]
          refine wpAnyH_ready (rs := [5]) (by kernel_rfl) (by simp) ?_
          refine AllReadyH.cons rfl (fun K hK => ?_) (AllReadyH.nil)
          · simp only [List.getElem_toArray, List.getElem_cons_succ, List.getElem_cons_zero]
            go_simp
            obtain ⟨w9, e9⟩ : ∃ w9, w9 = (w8).alloc (.cells ([.int .u64 0, .int .u64 0]).toArray 25) := ⟨_, rfl⟩
            have b9 : Below (w8).heap.size (w8) w9 := by rw [e9]; exact below_alloc (Below.refl _ _) _
            refine hK.out _ _ ?_ (fun hHeld => ?_)
            · have h := kept_below (by assumption) b9; rw [e9] at h; exact h
            clear hK K
            have sq9 : Slot W0.heap.size w9 (w8).heap.size ([.int .u64 0, .int .u64 0]) 25 := by rw [e9]; exact Slot.new _ _ _ _ (kept_size (by assumption))
            have hHeld' := hHeld
            clear hHeld
            have sp9 := sp8.later b9
            have nepq : (w1).heap.size ≠ (w8).heap.size := Nat.ne_of_lt sp8.lt
            rw [← e9] at hHeld' ⊢
            have hHeld := hHeld'
            clear hHeld' e9
            try simp only [Act.put, List.setIfInBounds_toArray, List.set_cons_zero, List.set_cons_succ]
            have c0 := sp9.cell 0 _ rfl
            have c1 := sp9.cell 1 _ rfl
            have f0 := sp9.free 0
            have f1 := sp9.free 1
            refine wpAnyH_ready (rs := [6]) (by kernel_rfl) (by simp) ?_
            refine AllReadyH.cons rfl (fun K hK => ?_) AllReadyH.nil
            simp only [List.getElem_toArray, List.getElem_cons_succ, List.getElem_cons_zero]
            go_simp
            refine hK.out _ _ ?_ (fun hHeld => ?_)
            · exact kept_set (kept_set (by assumption) sp9.1 hp hq) sp9.1 hp hq
            clear hK K c0 c1 f0 f1
            try simp only [Act.put, List.setIfInBounds_toArray, List.set_cons_zero, List.set_cons_succ]
            have ne1 : (w8).heap.size ≠ (w1).heap.size := by first | exact nepq | exact nepq.symm | exact neqp | exact neqp.symm
            have t5 := Slot.set (i := 1) (v := .int .u64 ah) (Slot.set (i := 0) (v := .int .u64 al) sp9)
            have t6 := Slot.other (i := 1) (v := .int .u64 ah) (Slot.other (i := 0) (v := .int .u64 al) sq9 ne1) ne1
            have c0 := t6.cell 0 _ rfl
            have c1 := t6.cell 1 _ rfl
            have f0 := t6.free 0
            have f1 := t6.free 1
            refine wpAnyH_ready (rs := [7]) (by kernel_rfl) (by simp) ?_
            refine AllReadyH.cons rfl (fun K hK => ?_) AllReadyH.nil
            simp only [List.getElem_toArray, List.getElem_cons_succ, List.getElem_cons_zero]
            go_simp
            refine hK.out _ _ ?_ (fun hHeld => ?_)
            · exact kept_set (kept_set (by assumption) t6.1 hp hq) t6.1 hp hq
            clear hK K c0 c1 f0 f1
            try simp only [Act.put, List.setIfInBounds_toArray, List.set_cons_zero, List.set_cons_succ]
            have u6 := Slot.set (i := 1) (v := .int .u64 bh) (Slot.set (i := 0) (v := .int .u64 bl) t6)
            have u5 := Slot.other (i := 1) (v := .int .u64 bh) (Slot.other (i := 0) (v := .int .u64 bl) t5 ne1.symm) ne1.symm
            refine wpAnyH_done (by kernel_rfl) ?_ _
            go_wp2_with fail
            go_meet
            case rel => exact ⟨_, _, rfl, rfl, hHeld.1, hHeld.2.1, hHeld.2.2, u5, u6⟩
        · simp only [List.getElem_toArray, List.getElem_cons_succ, List.getElem_cons_zero]
          go_simp
          obtain ⟨w10, e10⟩ : ∃ w10, w10 = (w7).alloc (.cells ([.int .u64 0, .int .u64 0]).toArray 25) := ⟨_, rfl⟩
          have b10 : Below (w7).heap.size (w7) w10 := by rw [e10]; exact below_alloc (Below.refl _ _) _
          refine hK.out _ _ ?_ (fun hHeld => ?_)
          · have h := kept_below (by assumption) b10; rw [e10] at h; exact h
          clear hK K
          have sq10 : Slot W0.heap.size w10 (w7).heap.size ([.int .u64 0, .int .u64 0]) 25 := by rw [e10]; exact Slot.new _ _ _ _ (kept_size (by assumption))
          have hHeld' := hHeld
          clear hHeld
          have sp10 := sp7.later b10
          have nepq : (w1).heap.size ≠ (w7).heap.size := Nat.ne_of_lt sp7.lt
          rw [← e10] at hHeld' ⊢
          have hHeld := hHeld'
          clear hHeld' e10
          try simp only [Act.put, List.setIfInBounds_toArray, List.set_cons_zero, List.set_cons_succ]
          refine wpAnyH_ready (rs := [3]) (by kernel_rfl) (by simp) ?_
          refine AllReadyH.cons rfl (fun K hK => ?_) (AllReadyH.nil)
          · simp only [List.getElem_toArray, List.getElem_cons_succ, List.getElem_cons_zero]
            go_simp
            refine (wY.out _).mono ?_
            rintro e w11 ⟨rfl, b11⟩
            go_wp2_with fail
            refine hK.out _ _ ?_ (fun hHeld => ?_)
            · exact kept_below (by assumption) b11
            clear hK K
            have sp11 := sp10.later b11
            have sq11 := sq10.later b11
            try simp only [Act.put, List.setIfInBounds_toArray, List.set_cons_zero, List.set_cons_succ]
            have c0 := sp11.cell 0 _ rfl
            have c1 := sp11.cell 1 _ rfl
            have f0 := sp11.free 0
            have f1 := sp11.free 1
            refine wpAnyH_ready (rs := [6]) (by kernel_rfl) (by simp) ?_
            refine AllReadyH.cons rfl (fun K hK => ?_) AllReadyH.nil
            simp only [List.getElem_toArray, List.getElem_cons_succ, List.getElem_cons_zero]
            go_simp
            refine hK.out _ _ ?_ (fun hHeld => ?_)
            · exact kept_set (kept_set (by assumption) sp11.1 hp hq) sp11.1 hp hq
            clear hK K c0 c1 f0 f1
            try simp only [Act.put, List.setIfInBounds_toArray, List.set_cons_zero, List.set_cons_succ]
            have ne1 : (w7).heap.size ≠ (w1).heap.size := by first | exact nepq | exact nepq.symm | exact neqp | exact neqp.symm
            have t5 := Slot.set (i := 1) (v := .int .u64 ah) (Slot.set (i := 0) (v := .int .u64 al) sp11)
            have t6 := Slot.other (i := 1) (v := .int .u64 ah) (Slot.other (i := 0) (v := .int .u64 al) sq11 ne1) ne1
            have c0 := t6.cell 0 _ rfl
            have c1 := t6.cell 1 _ rfl
            have f0 := t6.free 0
            have f1 := t6.free 1
            refine wpAnyH_ready (rs := [7]) (by kernel_rfl) (by simp) ?_
            refine AllReadyH.cons rfl (fun K hK => ?_) AllReadyH.nil
            simp only [List.getElem_toArray, List.getElem_cons_succ, List.getElem_cons_zero]
            go_simp
            refine hK.out _ _ ?_ (fun hHeld => ?_)
            · exact kept_set (kept_set (by assumption) t6.1 hp hq) t6.1 hp hq
            clear hK K c0 c1 f0 f1
            try simp only [Act.put, List.setIfInBounds_toArray, List.set_cons_zero, List.set_cons_succ]
            have u6 := Slot.set (i := 1) (v := .int .u64 bh) (Slot.set (i := 0) (v := .int .u64 bl) t6)
            have u5 := Slot.other (i := 1) (v := .int .u64 bh) (Slot.other (i := 0) (v := .int .u64 bl) t5 ne1.symm) ne1.symm
            refine wpAnyH_done (by kernel_rfl) ?_ _
            go_wp2_with fail
            go_meet
            case rel => exact ⟨_, _, rfl, rfl, hHeld.1, hHeld.2.1, hHeld.2.2, u5, u6⟩
      · simp only [List.getElem_toArray, List.getElem_cons_succ, List.getElem_cons_zero]
        go_simp
        obtain ⟨w12, e12⟩ : ∃ w12, w12 = (w1).alloc (.cells ([.int .u64 0, .int .u64 0]).toArray 25) := ⟨_, rfl⟩
        have b12 : Below (w1).heap.size (w1) w12 := by rw [e12]; exact below_alloc (Below.refl _ _) _
        refine hK.out _ _ ?_ (fun hHeld => ?_)
        · have h := kept_below (by assumption) b12; rw [e12] at h; exact h
        clear hK K
        have sq12 : Slot W0.heap.size w12 (w1).heap.size ([.int .u64 0, .int .u64 0]) 25 := by rw [e12]; exact Slot.new _ _ _ _ (kept_size (by assumption))
        have hHeld' := hHeld
        clear hHeld
        rw [← e12] at hHeld' ⊢
        have hHeld := hHeld'
        clear hHeld' e12
        try simp only [Act.put, List.setIfInBounds_toArray, List.set_cons_zero, List.set_cons_succ]
        refine wpAnyH_ready (rs := [3, 4]) (by kernel_rfl) (by simp) ?_
        refine AllReadyH.cons rfl (fun K hK => ?_) (AllReadyH.cons rfl (fun K hK => ?_) (AllReadyH.nil))
        · simp only [List.getElem_toArray, List.getElem_cons_succ, List.getElem_cons_zero]
          go_simp
          refine (wY.out _).mono ?_
          rintro e w13 ⟨rfl, b13⟩
          go_wp2_with fail
          refine hK.out _ _ ?_ (fun hHeld => ?_)
          · exact kept_below (by assumption) b13
          clear hK K
          have sq13 := sq12.later b13
          try simp only [Act.put, List.setIfInBounds_toArray, List.set_cons_zero, List.set_cons_succ]
          refine wpAnyH_ready (rs := [4]) (by kernel_rfl) (by simp) ?_
          refine AllReadyH.cons rfl (fun K hK => ?_) (AllReadyH.nil)
          · simp only [List.getElem_toArray, List.getElem_cons_succ, List.getElem_cons_zero]
            go_simp
            obtain ⟨w14, e14⟩ : ∃ w14, w14 = (w13).alloc (.cells ([.int .u64 0, .int .u64 0]).toArray 25) := ⟨_, rfl⟩
            have b14 : Below (w13).heap.size (w13) w14 := by rw [e14]; exact below_alloc (Below.refl _ _) _
            refine hK.out _ _ ?_ (fun hHeld => ?_)
            · have h := kept_below (by assumption) b14; rw [e14] at h; exact h
            clear hK K
            have sp14 : Slot W0.heap.size w14 (w13).heap.size ([.int .u64 0, .int .u64 0]) 25 := by rw [e14]; exact Slot.new _ _ _ _ (kept_size (by assumption))
            have hHeld' := hHeld
            clear hHeld
            have sq14 := sq13.later b14
            have neqp : (w1).heap.size ≠ (w13).heap.size := Nat.ne_of_lt sq13.lt
            rw [← e14] at hHeld' ⊢
            have hHeld := hHeld'
            clear hHeld' e14
            try simp only [Act.put, List.setIfInBounds_toArray, List.set_cons_zero, List.set_cons_succ]
            have c0 := sp14.cell 0 _ rfl
            have c1 := sp14.cell 1 _ rfl
            have f0 := sp14.free 0
            have f1 := sp14.free 1
            refine wpAnyH_ready (rs := [6]) (by kernel_rfl) (by simp) ?_
            refine AllReadyH.cons rfl (fun K hK => ?_) AllReadyH.nil
            simp only [List.getElem_toArray, List.getElem_cons_succ, List.getElem_cons_zero]
            go_simp
            refine hK.out _ _ ?_ (fun hHeld => ?_)
            · exact kept_set (kept_set (by assumption) sp14.1 hp hq) sp14.1 hp hq
            clear hK K c0 c1 f0 f1
            try simp only [Act.put, List.setIfInBounds_toArray, List.set_cons_zero, List.set_cons_succ]
            have ne1 : (w1).heap.size ≠ (w13).heap.size := by first | exact nepq | exact nepq.symm | exact neqp | exact neqp.symm
            have t5 := Slot.set (i := 1) (v := .int .u64 ah) (Slot.set (i := 0) (v := .int .u64 al) sp14)
            have t6 := Slot.other (i := 1) (v := .int .u64 ah) (Slot.other (i := 0) (v := .int .u64 al) sq14 ne1) ne1
            have c0 := t6.cell 0 _ rfl
            have c1 := t6.cell 1 _ rfl
            have f0 := t6.free 0
            have f1 := t6.free 1
            refine wpAnyH_ready (rs := [7]) (by kernel_rfl) (by simp) ?_
            refine AllReadyH.cons rfl (fun K hK => ?_) AllReadyH.nil
            simp only [List.getElem_toArray, List.getElem_cons_succ, List.getElem_cons_zero]
            go_simp
            refine hK.out _ _ ?_ (fun hHeld => ?_)
            · exact kept_set (kept_set (by assumption) t6.1 hp hq) t6.1 hp hq
            clear hK K c0 c1 f0 f1
            try simp only [Act.put, List.setIfInBounds_toArray, List.set_cons_zero, List.set_cons_succ]
            have u6 := Slot.set (i := 1) (v := .int .u64 bh) (Slot.set (i := 0) (v := .int .u64 bl) t6)
            have u5 := Slot.other (i := 1) (v := .int .u64 bh) (Slot.other (i := 0) (v := .int .u64 bl) t5 ne1.symm) ne1.symm
            refine wpAnyH_done (by kernel_rfl) ?_ _
            go_wp2_with fail
            go_meet
            case rel => exact ⟨_, _, rfl, rfl, hHeld.1, hHeld.2.1, hHeld.2.2, u5, u6⟩
        · simp only [List.getElem_toArray, List.getElem_cons_succ, List.getElem_cons_zero]
          go_simp
          obtain ⟨w15, e15⟩ : ∃ w15, w15 = (w12).alloc (.cells ([.int .u64 0, .int .u64 0]).toArray 25) := ⟨_, rfl⟩
          have b15 : Below (w12).heap.size (w12) w15 := by rw [e15]; exact below_alloc (Below.refl _ _) _
          refine hK.out _ _ ?_ (fun hHeld => ?_)
          · have h := kept_below (by assumption) b15; rw [e15] at h; exact h
          clear hK K
          have sp15 : Slot W0.heap.size w15 (w12).heap.size ([.int .u64 0, .int .u64 0]) 25 := by rw [e15]; exact Slot.new _ _ _ _ (kept_size (by assumption))
          have hHeld' := hHeld
          clear hHeld
          have sq15 := sq12.later b15
          have neqp : (w1).heap.size ≠ (w12).heap.size := Nat.ne_of_lt sq12.lt
          rw [← e15] at hHeld' ⊢
          have hHeld := hHeld'
          clear hHeld' e15
          try simp only [Act.put, List.setIfInBounds_toArray, List.set_cons_zero, List.set_cons_succ]
          refine wpAnyH_ready (rs := [3]) (by kernel_rfl) (by simp) ?_
          refine AllReadyH.cons rfl (fun K hK => ?_) (AllReadyH.nil)
          · simp only [List.getElem_toArray, List.getElem_cons_succ, List.getElem_cons_zero]
            go_simp
            refine (wY.out _).mono ?_
            rintro e w16 ⟨rfl, b16⟩
            go_wp2_with fail
            refine hK.out _ _ ?_ (fun hHeld => ?_)
            · exact kept_below (by assumption) b16
            clear hK K
            have sq16 := sq15.later b16
            have sp16 := sp15.later b16
            try simp only [Act.put, List.setIfInBounds_toArray, List.set_cons_zero, List.set_cons_succ]
            have c0 := sp16.cell 0 _ rfl
            have c1 := sp16.cell 1 _ rfl
            have f0 := sp16.free 0
            have f1 := sp16.free 1
            refine wpAnyH_ready (rs := [6]) (by kernel_rfl) (by simp) ?_
            refine AllReadyH.cons rfl (fun K hK => ?_) AllReadyH.nil
            simp only [List.getElem_toArray, List.getElem_cons_succ, List.getElem_cons_zero]
            go_simp
            refine hK.out _ _ ?_ (fun hHeld => ?_)
            · exact kept_set (kept_set (by assumption) sp16.1 hp hq) sp16.1 hp hq
            clear hK K c0 c1 f0 f1
            try simp only [Act.put, List.setIfInBounds_toArray, List.set_cons_zero, List.set_cons_succ]
            have ne1 : (w1).heap.size ≠ (w12).heap.size := by first | exact nepq | exact nepq.symm | exact neqp | exact neqp.symm
            have t5 := Slot.set (i := 1) (v := .int .u64 ah) (Slot.set (i := 0) (v := .int .u64 al) sp16)
            have t6 := Slot.other (i := 1) (v := .int .u64 ah) (Slot.other (i := 0) (v := .int .u64 al) sq16 ne1) ne1
            have c0 := t6.cell 0 _ rfl
            have c1 := t6.cell 1 _ rfl
            have f0 := t6.free 0
            have f1 := t6.free 1
            refine wpAnyH_ready (rs := [7]) (by kernel_rfl) (by simp) ?_
            refine AllReadyH.cons rfl (fun K hK => ?_) AllReadyH.nil
            simp only [List.getElem_toArray, List.getElem_cons_succ, List.getElem_cons_zero]
            go_simp
            refine hK.out _ _ ?_ (fun hHeld => ?_)
            · exact kept_set (kept_set (by assumption) t6.1 hp hq) t6.1 hp hq
            clear hK K c0 c1 f0 f1
            try simp only [Act.put, List.setIfInBounds_toArray, List.set_cons_zero, List.set_cons_succ]
            have u6 := Slot.set (i := 1) (v := .int .u64 bh) (Slot.set (i := 0) (v := .int .u64 bl) t6)
            have u5 := Slot.other (i := 1) (v := .int .u64 bh) (Slot.other (i := 0) (v := .int .u64 bl) t5 ne1.symm) ne1.symm
            refine wpAnyH_done (by kernel_rfl) ?_ _
            go_wp2_with fail
            go_meet
            case rel => exact ⟨_, _, rfl, rfl, hHeld.1, hHeld.2.1, hHeld.2.2, u5, u6⟩
    · simp only [List.getElem_toArray, List.getElem_cons_succ, List.getElem_cons_zero]
      go_simp
      obtain ⟨w17, e17⟩ : ∃ w17, w17 = (wd).alloc (.cells ([.int .u64 0, .int .u64 0]).toArray 25) := ⟨_, rfl⟩
      have b17 : Below (wd).heap.size (wd) w17 := by rw [e17]; exact below_alloc (Below.refl _ _) _
      refine hK.out _ _ ?_ (fun hHeld => ?_)
      · have h := kept_below (by assumption) b17; rw [e17] at h; exact h
      clear hK K
      have sp17 : Slot W0.heap.size w17 (wd).heap.size ([.int .u64 0, .int .u64 0]) 25 := by rw [e17]; exact Slot.new _ _ _ _ (kept_size (by assumption))
      have hHeld' := hHeld
      clear hHeld
      rw [← e17] at hHeld' ⊢
      have hHeld := hHeld'
      clear hHeld' e17
      try simp only [Act.put, List.setIfInBounds_toArray, List.set_cons_zero, List.set_cons_succ]
      refine wpAnyH_ready (rs := [1, 5]) (by kernel_rfl) (by simp) ?_
      refine AllReadyH.cons rfl (fun K hK => ?_) (AllReadyH.cons rfl (fun K hK => ?_) (AllReadyH.nil))
      · simp only [List.getElem_toArray, List.getElem_cons_succ, List.getElem_cons_zero]
        go_simp
        refine (wX.out _).mono ?_
        rintro e w18 ⟨rfl, b18⟩
        go_wp2_with fail
        refine hK.out _ _ ?_ (fun hHeld => ?_)
        · exact kept_below (by assumption) b18
        clear hK K
        have sp18 := sp17.later b18
        try simp only [Act.put, List.setIfInBounds_toArray, List.set_cons_zero, List.set_cons_succ]
        refine wpAnyH_ready (rs := [3, 5]) (by kernel_rfl) (by simp) ?_
        refine AllReadyH.cons rfl (fun K hK => ?_) (AllReadyH.cons rfl (fun K hK => ?_) (AllReadyH.nil))
        · simp only [List.getElem_toArray, List.getElem_cons_succ, List.getElem_cons_zero]
          go_simp
          refine (wY.out _).mono ?_
          rintro e w19 ⟨rfl, b19⟩
          go_wp2_with fail
          refine hK.out _ _ ?_ (fun hHeld => ?_)
          · exact kept_below (by assumption) b19
          clear hK K
          have sp19 := sp18.later b19
          try simp only [Act.put, List.setIfInBounds_toArray, List.set_cons_zero, List.set_cons_succ]
          refine wpAnyH_ready (rs := [5]) (by kernel_rfl) (by simp) ?_
          refine AllReadyH.cons rfl (fun K hK => ?_) (AllReadyH.nil)
          · simp only [List.getElem_toArray, List.getElem_cons_succ, List.getElem_cons_zero]
            go_simp
            obtain ⟨w20, e20⟩ : ∃ w20, w20 = (w19).alloc (.cells ([.int .u64 0, .int .u64 0]).toArray 25) := ⟨_, rfl⟩
            have b20 : Below (w19).heap.size (w19) w20 := by rw [e20]; exact below_alloc (Below.refl _ _) _
            refine hK.out _ _ ?_ (fun hHeld => ?_)
            · have h := kept_below (by assumption) b20; rw [e20] at h; exact h
            clear hK K
            have sq20 : Slot W0.heap.size w20 (w19).heap.size ([.int .u64 0, .int .u64 0]) 25 := by rw [e20]; exact Slot.new _ _ _ _ (kept_size (by assumption))
            have hHeld' := hHeld
            clear hHeld
            have sp20 := sp19.later b20
            have nepq : (wd).heap.size ≠ (w19).heap.size := Nat.ne_of_lt sp19.lt
            rw [← e20] at hHeld' ⊢
            have hHeld := hHeld'
            clear hHeld' e20
            try simp only [Act.put, List.setIfInBounds_toArray, List.set_cons_zero, List.set_cons_succ]
            have c0 := sp20.cell 0 _ rfl
            have c1 := sp20.cell 1 _ rfl
            have f0 := sp20.free 0
            have f1 := sp20.free 1
            refine wpAnyH_ready (rs := [6]) (by kernel_rfl) (by simp) ?_
            refine AllReadyH.cons rfl (fun K hK => ?_) AllReadyH.nil
            simp only [List.getElem_toArray, List.getElem_cons_succ, List.getElem_cons_zero]
            go_simp
            refine hK.out _ _ ?_ (fun hHeld => ?_)
            · exact kept_set (kept_set (by assumption) sp20.1 hp hq) sp20.1 hp hq
            clear hK K c0 c1 f0 f1
            try simp only [Act.put, List.setIfInBounds_toArray, List.set_cons_zero, List.set_cons_succ]
            have ne1 : (w19).heap.size ≠ (wd).heap.size := by first | exact nepq | exact nepq.symm | exact neqp | exact neqp.symm
            have t5 := Slot.set (i := 1) (v := .int .u64 ah) (Slot.set (i := 0) (v := .int .u64 al) sp20)
            have t6 := Slot.other (i := 1) (v := .int .u64 ah) (Slot.other (i := 0) (v := .int .u64 al) sq20 ne1) ne1
            have c0 := t6.cell 0 _ rfl
            have c1 := t6.cell 1 _ rfl
            have f0 := t6.free 0
            have f1 := t6.free 1
            refine wpAnyH_ready (rs := [7]) (by kernel_rfl) (by simp) ?_
            refine AllReadyH.cons rfl (fun K hK => ?_) AllReadyH.nil
            simp only [List.getElem_toArray, List.getElem_cons_succ, List.getElem_cons_zero]
            go_simp
            refine hK.out _ _ ?_ (fun hHeld => ?_)
            · exact kept_set (kept_set (by assumption) t6.1 hp hq) t6.1 hp hq
            clear hK K c0 c1 f0 f1
            try simp only [Act.put, List.setIfInBounds_toArray, List.set_cons_zero, List.set_cons_succ]
            have u6 := Slot.set (i := 1) (v := .int .u64 bh) (Slot.set (i := 0) (v := .int .u64 bl) t6)
            have u5 := Slot.other (i := 1) (v := .int .u64 bh) (Slot.other (i := 0) (v := .int .u64 bl) t5 ne1.symm) ne1.symm
            refine wpAnyH_done (by kernel_rfl) ?_ _
            go_wp2_with fail
            go_meet
            case rel => exact ⟨_, _, rfl, rfl, hHeld.1, hHeld.2.1, hHeld.2.2, u5, u6⟩
        · simp only [List.getElem_toArray, List.getElem_cons_succ, List.getElem_cons_zero]
          go_simp
          obtain ⟨w21, e21⟩ : ∃ w21, w21 = (w18).alloc (.cells ([.int .u64 0, .int .u64 0]).toArray 25) := ⟨_, rfl⟩
          have b21 : Below (w18).heap.size (w18) w21 := by rw [e21]; exact below_alloc (Below.refl _ _) _
          refine hK.out _ _ ?_ (fun hHeld => ?_)
          · have h := kept_below (by assumption) b21; rw [e21] at h; exact h
          clear hK K
          have sq21 : Slot W0.heap.size w21 (w18).heap.size ([.int .u64 0, .int .u64 0]) 25 := by rw [e21]; exact Slot.new _ _ _ _ (kept_size (by assumption))
          have hHeld' := hHeld
          clear hHeld
          have sp21 := sp18.later b21
          have nepq : (wd).heap.size ≠ (w18).heap.size := Nat.ne_of_lt sp18.lt
          rw [← e21] at hHeld' ⊢
          have hHeld := hHeld'
          clear hHeld' e21
          try simp only [Act.put, List.setIfInBounds_toArray, List.set_cons_zero, List.set_cons_succ]
          refine wpAnyH_ready (rs := [3]) (by kernel_rfl) (by simp) ?_
          refine AllReadyH.cons rfl (fun K hK => ?_) (AllReadyH.nil)
          · simp only [List.getElem_toArray, List.getElem_cons_succ, List.getElem_cons_zero]
            go_simp
            refine (wY.out _).mono ?_
            rintro e w22 ⟨rfl, b22⟩
            go_wp2_with fail
            refine hK.out _ _ ?_ (fun hHeld => ?_)
            · exact kept_below (by assumption) b22
            clear hK K
            have sp22 := sp21.later b22
            have sq22 := sq21.later b22
            try simp only [Act.put, List.setIfInBounds_toArray, List.set_cons_zero, List.set_cons_succ]
            have c0 := sp22.cell 0 _ rfl
            have c1 := sp22.cell 1 _ rfl
            have f0 := sp22.free 0
            have f1 := sp22.free 1
            refine wpAnyH_ready (rs := [6]) (by kernel_rfl) (by simp) ?_
            refine AllReadyH.cons rfl (fun K hK => ?_) AllReadyH.nil
            simp only [List.getElem_toArray, List.getElem_cons_succ, List.getElem_cons_zero]
            go_simp
            refine hK.out _ _ ?_ (fun hHeld => ?_)
            · exact kept_set (kept_set (by assumption) sp22.1 hp hq) sp22.1 hp hq
            clear hK K c0 c1 f0 f1
            try simp only [Act.put, List.setIfInBounds_toArray, List.set_cons_zero, List.set_cons_succ]
            have ne1 : (w18).heap.size ≠ (wd).heap.size := by first | exact nepq | exact nepq.symm | exact neqp | exact neqp.symm
            have t5 := Slot.set (i := 1) (v := .int .u64 ah) (Slot.set (i := 0) (v := .int .u64 al) sp22)
            have t6 := Slot.other (i := 1) (v := .int .u64 ah) (Slot.other (i := 0) (v := .int .u64 al) sq22 ne1) ne1
            have c0 := t6.cell 0 _ rfl
            have c1 := t6.cell 1 _ rfl
            have f0 := t6.free 0
            have f1 := t6.free 1
            refine wpAnyH_ready (rs := [7]) (by kernel_rfl) (by simp) ?_
            refine AllReadyH.cons rfl (fun K hK => ?_) AllReadyH.nil
            simp only [List.getElem_toArray, List.getElem_cons_succ, List.getElem_cons_zero]
            go_simp
            refine hK.out _ _ ?_ (fun hHeld => ?_)
            · exact kept_set (kept_set (by assumption) t6.1 hp hq) t6.1 hp hq
            clear hK K c0 c1 f0 f1
            try simp only [Act.put, List.setIfInBounds_toArray, List.set_cons_zero, List.set_cons_succ]
            have u6 := Slot.set (i := 1) (v := .int .u64 bh) (Slot.set (i := 0) (v := .int .u64 bl) t6)
            have u5 := Slot.other (i := 1) (v := .int .u64 bh) (Slot.other (i := 0) (v := .int .u64 bl) t5 ne1.symm) ne1.symm
            refine wpAnyH_done (by kernel_rfl) ?_ _
            go_wp2_with fail
            go_meet
            case rel => exact ⟨_, _, rfl, rfl, hHeld.1, hHeld.2.1, hHeld.2.2, u5, u6⟩
      · simp only [List.getElem_toArray, List.getElem_cons_succ, List.getElem_cons_zero]
        go_simp
        obtain ⟨w23, e23⟩ : ∃ w23, w23 = (w17).alloc (.cells ([.int .u64 0, .int .u64 0]).toArray 25) := ⟨_, rfl⟩
        have b23 : Below (w17).heap.size (w17) w23 := by rw [e23]; exact below_alloc (Below.refl _ _) _
        refine hK.out _ _ ?_ (fun hHeld => ?_)
        · have h := kept_below (by assumption) b23; rw [e23] at h; exact h
        clear hK K
        have sq23 : Slot W0.heap.size w23 (w17).heap.size ([.int .u64 0, .int .u64 0]) 25 := by rw [e23]; exact Slot.new _ _ _ _ (kept_size (by assumption))
        have hHeld' := hHeld
        clear hHeld
        have sp23 := sp17.later b23
        have nepq : (wd).heap.size ≠ (w17).heap.size := Nat.ne_of_lt sp17.lt
        rw [← e23] at hHeld' ⊢
        have hHeld := hHeld'
        clear hHeld' e23
        try simp only [Act.put, List.setIfInBounds_toArray, List.set_cons_zero, List.set_cons_succ]
        refine wpAnyH_ready (rs := [1]) (by kernel_rfl) (by simp) ?_
        refine AllReadyH.cons rfl (fun K hK => ?_) (AllReadyH.nil)
        · simp only [List.getElem_toArray, List.getElem_cons_succ, List.getElem_cons_zero]
          go_simp
          refine (wX.out _).mono ?_
          rintro e w24 ⟨rfl, b24⟩
          go_wp2_with fail
          refine hK.out _ _ ?_ (fun hHeld => ?_)
          · exact kept_below (by assumption) b24
          clear hK K
          have sp24 := sp23.later b24
          have sq24 := sq23.later b24
          try simp only [Act.put, List.setIfInBounds_toArray, List.set_cons_zero, List.set_cons_succ]
          refine wpAnyH_ready (rs := [3]) (by kernel_rfl) (by simp) ?_
          refine AllReadyH.cons rfl (fun K hK => ?_) (AllReadyH.nil)
          · simp only [List.getElem_toArray, List.getElem_cons_succ, List.getElem_cons_zero]
            go_simp
            refine (wY.out _).mono ?_
            rintro e w25 ⟨rfl, b25⟩
            go_wp2_with fail
            refine hK.out _ _ ?_ (fun hHeld => ?_)
            · exact kept_below (by assumption) b25
            clear hK K
            have sp25 := sp24.later b25
            have sq25 := sq24.later b25
            try simp only [Act.put, List.setIfInBounds_toArray, List.set_cons_zero, List.set_cons_succ]
            have c0 := sp25.cell 0 _ rfl
            have c1 := sp25.cell 1 _ rfl
            have f0 := sp25.free 0
            have f1 := sp25.free 1
            refine wpAnyH_ready (rs := [6]) (by kernel_rfl) (by simp) ?_
            refine AllReadyH.cons rfl (fun K hK => ?_) AllReadyH.nil
            simp only [List.getElem_toArray, List.getElem_cons_succ, List.getElem_cons_zero]
            go_simp
            refine hK.out _ _ ?_ (fun hHeld => ?_)
            · exact kept_set (kept_set (by assumption) sp25.1 hp hq) sp25.1 hp hq
            clear hK K c0 c1 f0 f1
            try simp only [Act.put, List.setIfInBounds_toArray, List.set_cons_zero, List.set_cons_succ]
            have ne1 : (w17).heap.size ≠ (wd).heap.size := by first | exact nepq | exact nepq.symm | exact neqp | exact neqp.symm
            have t5 := Slot.set (i := 1) (v := .int .u64 ah) (Slot.set (i := 0) (v := .int .u64 al) sp25)
            have t6 := Slot.other (i := 1) (v := .int .u64 ah) (Slot.other (i := 0) (v := .int .u64 al) sq25 ne1) ne1
            have c0 := t6.cell 0 _ rfl
            have c1 := t6.cell 1 _ rfl
            have f0 := t6.free 0
            have f1 := t6.free 1
            refine wpAnyH_ready (rs := [7]) (by kernel_rfl) (by simp) ?_
            refine AllReadyH.cons rfl (fun K hK => ?_) AllReadyH.nil
            simp only [List.getElem_toArray, List.getElem_cons_succ, List.getElem_cons_zero]
            go_simp
            refine hK.out _ _ ?_ (fun hHeld => ?_)
            · exact kept_set (kept_set (by assumption) t6.1 hp hq) t6.1 hp hq
            clear hK K c0 c1 f0 f1
            try simp only [Act.put, List.setIfInBounds_toArray, List.set_cons_zero, List.set_cons_succ]
            have u6 := Slot.set (i := 1) (v := .int .u64 bh) (Slot.set (i := 0) (v := .int .u64 bl) t6)
            have u5 := Slot.other (i := 1) (v := .int .u64 bh) (Slot.other (i := 0) (v := .int .u64 bl) t5 ne1.symm) ne1.symm
            refine wpAnyH_done (by kernel_rfl) ?_ _
            go_wp2_with fail
            go_meet
            case rel => exact ⟨_, _, rfl, rfl, hHeld.1, hHeld.2.1, hHeld.2.2, u5, u6⟩
    · simp only [List.getElem_toArray, List.getElem_cons_succ, List.getElem_cons_zero]
      go_simp
      obtain ⟨w26, e26⟩ : ∃ w26, w26 = (wd).alloc (.cells ([.int .u64 0, .int .u64 0]).toArray 25) := ⟨_, rfl⟩
      have b26 : Below (wd).heap.size (wd) w26 := by rw [e26]; exact below_alloc (Below.refl _ _) _
      refine hK.out _ _ ?_ (fun hHeld => ?_)
      · have h := kept_below (by assumption) b26; rw [e26] at h; exact h
      clear hK K
      have sq26 : Slot W0.heap.size w26 (wd).heap.size ([.int .u64 0, .int .u64 0]) 25 := by rw [e26]; exact Slot.new _ _ _ _ (kept_size (by assumption))
      have hHeld' := hHeld
      clear hHeld
      rw [← e26] at hHeld' ⊢
      have hHeld := hHeld'
      clear hHeld' e26
      try simp only [Act.put, List.setIfInBounds_toArray, List.set_cons_zero, List.set_cons_succ]
      refine wpAnyH_ready (rs := [1, 4]) (by kernel_rfl) (by simp) ?_
      refine AllReadyH.cons rfl (fun K hK => ?_) (AllReadyH.cons rfl (fun K hK => ?_) (AllReadyH.nil))
      · simp only [List.getElem_toArray, List.getElem_cons_succ, List.getElem_cons_zero]
        go_simp
        refine (wX.out _).mono ?_
        rintro e w27 ⟨rfl, b27⟩
        go_wp2_with fail
        refine hK.out _ _ ?_ (fun hHeld => ?_)
        · exact kept_below (by assumption) b27
        clear hK K
        have sq27 := sq26.later b27
        try simp only [Act.put, List.setIfInBounds_toArray, List.set_cons_zero, List.set_cons_succ]
        refine wpAnyH_ready (rs := [3, 4]) (by kernel_rfl) (by simp) ?_
        refine AllReadyH.cons rfl (fun K hK => ?_) (AllReadyH.cons rfl (fun K hK => ?_) (AllReadyH.nil))
        · simp only [List.getElem_toArray, List.getElem_cons_succ, List.getElem_cons_zero]
          go_simp
          refine (wY.out _).mono ?_
          rintro e w28 ⟨rfl, b28⟩
          go_wp2_with fail
          refine hK.out _ _ ?_ (fun hHeld => ?_)
          · exact kept_below (by assumption) b28
          clear hK K
          have sq28 := sq27.later b28
          try simp only [Act.put, List.setIfInBounds_toArray, List.set_cons_zero, List.set_cons_succ]
          refine wpAnyH_ready (rs := [4]) (by kernel_rfl) (by simp) ?_
          refine AllReadyH.cons rfl (fun K hK => ?_) (AllReadyH.nil)
          · simp only [List.getElem_toArray, List.getElem_cons_succ, List.getElem_cons_zero]
            go_simp
            obtain ⟨w29, e29⟩ : ∃ w29, w29 = (w28).alloc (.cells ([.int .u64 0, .int .u64 0]).toArray 25) := ⟨_, rfl⟩
            have b29 : Below (w28).heap.size (w28) w29 := by rw [e29]; exact below_alloc (Below.refl _ _) _
            refine hK.out _ _ ?_ (fun hHeld => ?_)
            · have h := kept_below (by assumption) b29; rw [e29] at h; exact h
            clear hK K
            have sp29 : Slot W0.heap.size w29 (w28).heap.size ([.int .u64 0, .int .u64 0]) 25 := by rw [e29]; exact Slot.new _ _ _ _ (kept_size (by assumption))
            have hHeld' := hHeld
            clear hHeld
            have sq29 := sq28.later b29
            have neqp : (wd).heap.size ≠ (w28).heap.size := Nat.ne_of_lt sq28.lt
            rw [← e29] at hHeld' ⊢
            have hHeld := hHeld'
            clear hHeld' e29
            try simp only [Act.put, List.setIfInBounds_toArray, List.set_cons_zero, List.set_cons_succ]
            have c0 := sp29.cell 0 _ rfl
            have c1 := sp29.cell 1 _ rfl
            have f0 := sp29.free 0
            have f1 := sp29.free 1
            refine wpAnyH_ready (rs := [6]) (by kernel_rfl) (by simp) ?_
            refine AllReadyH.cons rfl (fun K hK => ?_) AllReadyH.nil
            simp only [List.getElem_toArray, List.getElem_cons_succ, List.getElem_cons_zero]
            go_simp
            refine hK.out _ _ ?_ (fun hHeld => ?_)
            · exact kept_set (kept_set (by assumption) sp29.1 hp hq) sp29.1 hp hq
            clear hK K c0 c1 f0 f1
            try simp only [Act.put, List.setIfInBounds_toArray, List.set_cons_zero, List.set_cons_succ]
            have ne1 : (wd).heap.size ≠ (w28).heap.size := by first | exact nepq | exact nepq.symm | exact neqp | exact neqp.symm
            have t5 := Slot.set (i := 1) (v := .int .u64 ah) (Slot.set (i := 0) (v := .int .u64 al) sp29)
            have t6 := Slot.other (i := 1) (v := .int .u64 ah) (Slot.other (i := 0) (v := .int .u64 al) sq29 ne1) ne1
            have c0 := t6.cell 0 _ rfl
            have c1 := t6.cell 1 _ rfl
            have f0 := t6.free 0
            have f1 := t6.free 1
            refine wpAnyH_ready (rs := [7]) (by kernel_rfl) (by simp) ?_
            refine AllReadyH.cons rfl (fun K hK => ?_) AllReadyH.nil
            simp only [List.getElem_toArray, List.getElem_cons_succ, List.getElem_cons_zero]
            go_simp
            refine hK.out _ _ ?_ (fun hHeld => ?_)
            · exact kept_set (kept_set (by assumption) t6.1 hp hq) t6.1 hp hq
            clear hK K c0 c1 f0 f1
            try simp only [Act.put, List.setIfInBounds_toArray, List.set_cons_zero, List.set_cons_succ]
            have u6 := Slot.set (i := 1) (v := .int .u64 bh) (Slot.set (i := 0) (v := .int .u64 bl) t6)
            have u5 := Slot.other (i := 1) (v := .int .u64 bh) (Slot.other (i := 0) (v := .int .u64 bl) t5 ne1.symm) ne1.symm
            refine wpAnyH_done (by kernel_rfl) ?_ _
            go_wp2_with fail
            go_meet
            case rel => exact ⟨_, _, rfl, rfl, hHeld.1, hHeld.2.1, hHeld.2.2, u5, u6⟩
        · simp only [List.getElem_toArray, List.getElem_cons_succ, List.getElem_cons_zero]
          go_simp
          obtain ⟨w30, e30⟩ : ∃ w30, w30 = (w27).alloc (.cells ([.int .u64 0, .int .u64 0]).toArray 25) := ⟨_, rfl⟩
          have b30 : Below (w27).heap.size (w27) w30 := by rw [e30]; exact below_alloc (Below.refl _ _) _
          refine hK.out _ _ ?_ (fun hHeld => ?_)
          · have h := kept_below (by assumption) b30; rw [e30] at h; exact h
          clear hK K
          have sp30 : Slot W0.heap.size w30 (w27).heap.size ([.int .u64 0, .int .u64 0]) 25 := by rw [e30]; exact Slot.new _ _ _ _ (kept_size (by assumption))
          have hHeld' := hHeld
          clear hHeld
          have sq30 := sq27.later b30
          have neqp : (wd).heap.size ≠ (w27).heap.size := Nat.ne_of_lt sq27.lt
          rw [← e30] at hHeld' ⊢
          have hHeld := hHeld'
          clear hHeld' e30
          try simp only [Act.put, List.setIfInBounds_toArray, List.set_cons_zero, List.set_cons_succ]
          refine wpAnyH_ready (rs := [3]) (by kernel_rfl) (by simp) ?_
          refine AllReadyH.cons rfl (fun K hK => ?_) (AllReadyH.nil)
          · simp only [List.getElem_toArray, List.getElem_cons_succ, List.getElem_cons_zero]
            go_simp
            refine (wY.out _).mono ?_
            rintro e w31 ⟨rfl, b31⟩
            go_wp2_with fail
            refine hK.out _ _ ?_ (fun hHeld => ?_)
            · exact kept_below (by assumption) b31
            clear hK K
            have sq31 := sq30.later b31
            have sp31 := sp30.later b31
            try simp only [Act.put, List.setIfInBounds_toArray, List.set_cons_zero, List.set_cons_succ]
            have c0 := sp31.cell 0 _ rfl
            have c1 := sp31.cell 1 _ rfl
            have f0 := sp31.free 0
            have f1 := sp31.free 1
            refine wpAnyH_ready (rs := [6]) (by kernel_rfl) (by simp) ?_
            refine AllReadyH.cons rfl (fun K hK => ?_) AllReadyH.nil
            simp only [List.getElem_toArray, List.getElem_cons_succ, List.getElem_cons_zero]
            go_simp
            refine hK.out _ _ ?_ (fun hHeld => ?_)
            · exact kept_set (kept_set (by assumption) sp31.1 hp hq) sp31.1 hp hq
            clear hK K c0 c1 f0 f1
            try simp only [Act.put, List.setIfInBounds_toArray, List.set_cons_zero, List.set_cons_succ]
            have ne1 : (wd).heap.size ≠ (w27).heap.size := by first | exact nepq | exact nepq.symm | exact neqp | exact neqp.symm
            have t5 := Slot.set (i := 1) (v := .int .u64 ah) (Slot.set (i := 0) (v := .int .u64 al) sp31)
            have t6 := Slot.other (i := 1) (v := .int .u64 ah) (Slot.other (i := 0) (v := .int .u64 al) sq31 ne1) ne1
            have c0 := t6.cell 0 _ rfl
            have c1 := t6.cell 1 _ rfl
            have f0 := t6.free 0
            have f1 := t6.free 1
            refine wpAnyH_ready (rs := [7]) (by kernel_rfl) (by simp) ?_
            refine AllReadyH.cons rfl (fun K hK => ?_) AllReadyH.nil
            simp only [List.getElem_toArray, List.getElem_cons_succ, List.getElem_cons_zero]
            go_simp
            refine hK.out _ _ ?_ (fun hHeld => ?_)
            · exact kept_set (kept_set (by assumption) t6.1 hp hq) t6.1 hp hq
            clear hK K c0 c1 f0 f1
            try simp only [Act.put, List.setIfInBounds_toArray, List.set_cons_zero, List.set_cons_succ]
            have u6 := Slot.set (i := 1) (v := .int .u64 bh) (Slot.set (i := 0) (v := .int .u64 bl) t6)
            have u5 := Slot.other (i := 1) (v := .int .u64 bh) (Slot.other (i := 0) (v := .int .u64 bl) t5 ne1.symm) ne1.symm
            refine wpAnyH_done (by kernel_rfl) ?_ _
            go_wp2_with fail
            go_meet
            case rel => exact ⟨_, _, rfl, rfl, hHeld.1, hHeld.2.1, hHeld.2.2, u5, u6⟩
      · simp only [List.getElem_toArray, List.getElem_cons_succ, List.getElem_cons_zero]
        go_simp
        obtain ⟨w32, e32⟩ : ∃ w32, w32 = (w26).alloc (.cells ([.int .u64 0, .int .u64 0]).toArray 25) := ⟨_, rfl⟩
        have b32 : Below (w26).heap.size (w26) w32 := by rw [e32]; exact below_alloc (Below.refl _ _) _
        refine hK.out _ _ ?_ (fun hHeld => ?_)
        · have h := kept_below (by assumption) b32; rw [e32] at h; exact h
        clear hK K
        have sp32 : Slot W0.heap.size w32 (w26).heap.size ([.int .u64 0, .int .u64 0]) 25 := by rw [e32]; exact Slot.new _ _ _ _ (kept_size (by assumption))
        have hHeld' := hHeld
        clear hHeld
        have sq32 := sq26.later b32
        have neqp : (wd).heap.size ≠ (w26).heap.size := Nat.ne_of_lt sq26.lt
        rw [← e32] at hHeld' ⊢
        have hHeld := hHeld'
        clear hHeld' e32
        try simp only [Act.put, List.setIfInBounds_toArray, List.set_cons_zero, List.set_cons_succ]
        refine wpAnyH_ready (rs := [1]) (by kernel_rfl) (by simp) ?_
        refine AllReadyH.cons rfl (fun K hK => ?_) (AllReadyH.nil)
        · simp only [List.getElem_toArray, List.getElem_cons_succ, List.getElem_cons_zero]
          go_simp
          refine (wX.out _).mono ?_
          rintro e w33 ⟨rfl, b33⟩
          go_wp2_with fail
          refine hK.out _ _ ?_ (fun hHeld => ?_)
          · exact kept_below (by assumption) b33
          clear hK K
          have sq33 := sq32.later b33
          have sp33 := sp32.later b33
          try simp only [Act.put, List.setIfInBounds_toArray, List.set_cons_zero, List.set_cons_succ]
          refine wpAnyH_ready (rs := [3]) (by kernel_rfl) (by simp) ?_
          refine AllReadyH.cons rfl (fun K hK => ?_) (AllReadyH.nil)
          · simp only [List.getElem_toArray, List.getElem_cons_succ, List.getElem_cons_zero]
            go_simp
            refine (wY.out _).mono ?_
            rintro e w34 ⟨rfl, b34⟩
            go_wp2_with fail
            refine hK.out _ _ ?_ (fun hHeld => ?_)
            · exact kept_below (by assumption) b34
            clear hK K
            have sq34 := sq33.later b34
            have sp34 := sp33.later b34
            try simp only [Act.put, List.setIfInBounds_toArray, List.set_cons_zero, List.set_cons_succ]
            have c0 := sp34.cell 0 _ rfl
            have c1 := sp34.cell 1 _ rfl
            have f0 := sp34.free 0
            have f1 := sp34.free 1
            refine wpAnyH_ready (rs := [6]) (by kernel_rfl) (by simp) ?_
            refine AllReadyH.cons rfl (fun K hK => ?_) AllReadyH.nil
            simp only [List.getElem_toArray, List.getElem_cons_succ, List.getElem_cons_zero]
            go_simp
            refine hK.out _ _ ?_ (fun hHeld => ?_)
            · exact kept_set (kept_set (by assumption) sp34.1 hp hq) sp34.1 hp hq
            clear hK K c0 c1 f0 f1
            try simp only [Act.put, List.setIfInBounds_toArray, List.set_cons_zero, List.set_cons_succ]
            have ne1 : (wd).heap.size ≠ (w26).heap.size := by first | exact nepq | exact nepq.symm | exact neqp | exact neqp.symm
            have t5 := Slot.set (i := 1) (v := .int .u64 ah) (Slot.set (i := 0) (v := .int .u64 al) sp34)
            have t6 := Slot.other (i := 1) (v := .int .u64 ah) (Slot.other (i := 0) (v := .int .u64 al) sq34 ne1) ne1
            have c0 := t6.cell 0 _ rfl
            have c1 := t6.cell 1 _ rfl
            have f0 := t6.free 0
            have f1 := t6.free 1
            refine wpAnyH_ready (rs := [7]) (by kernel_rfl) (by simp) ?_
            refine AllReadyH.cons rfl (fun K hK => ?_) AllReadyH.nil
            simp only [List.getElem_toArray, List.getElem_cons_succ, List.getElem_cons_zero]
            go_simp
            refine hK.out _ _ ?_ (fun hHeld => ?_)
            · exact kept_set (kept_set (by assumption) t6.1 hp hq) t6.1 hp hq
            clear hK K c0 c1 f0 f1
            try simp only [Act.put, List.setIfInBounds_toArray, List.set_cons_zero, List.set_cons_succ]
            have u6 := Slot.set (i := 1) (v := .int .u64 bh) (Slot.set (i := 0) (v := .int .u64 bl) t6)
            have u5 := Slot.other (i := 1) (v := .int .u64 bh) (Slot.other (i := 0) (v := .int .u64 bl) t5 ne1.symm) ne1.symm
            refine wpAnyH_done (by kernel_rfl) ?_ _
            go_wp2_with fail
            go_meet
            case rel => exact ⟨_, _, rfl, rfl, hHeld.1, hHeld.2.1, hHeld.2.2, u5, u6⟩
  case rest =>
    obtain ⟨g, h, rfl, rfl, b0, r1, r2, s1, s2⟩ := hcut
    go_wp2_with fail
    refine wp_region_held_drew (S := fun w' => Below wc.heap.size wc w' ∧ w'.rangeAt w.heap.size 0 X ∧ w'.rangeAt (w.heap.size + 1) 0 Y ∧ w'.cell? ⟨g, 0, none⟩ = some (.int .u64 al) ∧ w'.cell? ⟨g, 1, none⟩ = some (.int .u64 ah) ∧ w'.cell? ⟨h, 0, none⟩ = some (.int .u64 bl) ∧ w'.cell? ⟨h, 1, none⟩ = some (.int .u64 bh)) (by kernel_rfl) ?_ (fun hHeld => ?_)
    · exact ⟨(Below.refl _ _).drew, r1, r2, s1.cell 0 _ rfl, s1.cell 1 _ rfl, s2.cell 0 _ rfl, s2.cell 1 _ rfl⟩
    refine wpAnyH_take (i := 0) (v := ?_) rfl (by kernel_rfl) (by kernel_rfl) (by kernel_rfl) (fun _ _ _ h => h) (Or.inl ⟨by rfl, ?_⟩) (by assumption) ?_
    rotate_left
    · (intro w hSw; (try dsimp only at hSw); simp only [List.getElem_toArray, List.getElem_cons_zero]; go_simp; try with_reducible rfl)
    simp only [Act.put, List.getElem_toArray, List.getElem_cons_zero, List.setIfInBounds_toArray, List.set_cons_zero, List.set_cons_succ]
    refine wpAnyH_take (i := 1) (v := ?_) rfl (by kernel_rfl) (by kernel_rfl) (by kernel_rfl) (fun _ _ _ h => h) (Or.inl ⟨by rfl, ?_⟩) (by assumption) ?_
    rotate_left
    · (intro w hSw; (try dsimp only at hSw); simp only [List.getElem_toArray, List.getElem_cons_succ, List.getElem_cons_zero]; go_simp; try with_reducible rfl)
    simp only [Act.put, List.getElem_toArray, List.getElem_cons_succ, List.getElem_cons_zero, List.setIfInBounds_toArray, List.set_cons_zero, List.set_cons_succ]
    refine wpAnyH_take (i := 3) rfl (by kernel_rfl) (by kernel_rfl) (by kernel_rfl) (fun _ _ _ h => h) (yieldsIf_load_mid (by rfl) _ _ rfl _ _ rfl X _ (fun w hSw => hSw.2.1) hun27 rfl iX) (by assumption) ?_
    simp only [Act.put, List.getElem_toArray, List.getElem_cons_succ, List.getElem_cons_zero, List.setIfInBounds_toArray, List.set_cons_zero, List.set_cons_succ]
    refine wpAnyH_take (i := 4) rfl (by kernel_rfl) (by kernel_rfl) (by kernel_rfl) (fun _ _ _ h => h) (yieldsIf_load_mid (by rfl) _ _ rfl _ _ rfl Y _ (fun w hSw => hSw.2.2.1) hun27 rfl iY) (by assumption) ?_
    simp only [Act.put, List.getElem_toArray, List.getElem_cons_succ, List.getElem_cons_zero, List.setIfInBounds_toArray, List.set_cons_zero, List.set_cons_succ]
    refine wpAnyH_ready (rs := [2]) (by kernel_rfl) (by simp) ?_
    refine AllReadyH.cons rfl (fun K hK => ?_) AllReadyH.nil
    simp only [List.getElem_toArray, List.getElem_cons_succ, List.getElem_cons_zero]
    go_simp
    refine (cP.out _).mono ?_; rintro e w' ⟨rfl, hb⟩
    go_wp2_with fail
    refine hK.out _ _ ?_ (fun hHeld => ?_)
    · exact keep6 hHeld hb
    clear hK K
    try simp only [Act.put, List.setIfInBounds_toArray, List.set_cons_zero, List.set_cons_succ]
    refine wpAnyH_ready (rs := [5]) (by kernel_rfl) (by simp) ?_
    refine AllReadyH.cons rfl (fun K hK => ?_) AllReadyH.nil
    simp only [List.getElem_toArray, List.getElem_cons_succ, List.getElem_cons_zero]
    go_simp
    refine (rP.out _).mono ?_; rintro e w' ⟨rfl, hb⟩
    go_wp2_with fail
    refine hK.out _ _ ?_ (fun hHeld => ?_)
    · exact keep6 hHeld hb
    clear hK K
    try simp only [Act.put, List.setIfInBounds_toArray, List.set_cons_zero, List.set_cons_succ]
    refine wpAnyH_ready (rs := [6]) (by kernel_rfl) (by simp) ?_
    refine AllReadyH.cons rfl (fun K hK => ?_) AllReadyH.nil
    simp only [List.getElem_toArray, List.getElem_cons_succ, List.getElem_cons_zero]
    go_simp
    refine (wS.out _).mono ?_; rintro e w' ⟨rfl, hb⟩
    go_wp2_with fail
    refine hK.out _ _ ?_ (fun hHeld => ?_)
    · exact keep6 hHeld hb
    clear hK K
    try simp only [Act.put, List.setIfInBounds_toArray, List.set_cons_zero, List.set_cons_succ]
    refine wpAnyH_take (i := 7) (v := ?_) rfl (by kernel_rfl) (by kernel_rfl) (by kernel_rfl) (fun _ _ _ h => h) (Or.inl ⟨by rfl, ?_⟩) (by assumption) ?_
    rotate_left
    · (intro w hSw; (try dsimp only at hSw); simp only [List.getElem_toArray, List.getElem_cons_succ, List.getElem_cons_zero]; go_simp; try with_reducible rfl)
    simp only [Act.put, List.getElem_toArray, List.getElem_cons_succ, List.getElem_cons_zero, List.setIfInBounds_toArray, List.set_cons_zero, List.set_cons_succ]
    refine wpAnyH_take (i := 8) (v := ?_) rfl (by kernel_rfl) (by kernel_rfl) (by kernel_rfl) (fun _ _ _ h => h) (Or.inl ⟨by rfl, ?_⟩) (by assumption) ?_
    rotate_left
    · (intro w hSw; (try dsimp only at hSw); simp only [List.getElem_toArray, List.getElem_cons_succ, List.getElem_cons_zero]; go_simp; try with_reducible rfl)
    simp only [Act.put, List.getElem_toArray, List.getElem_cons_succ, List.getElem_cons_zero, List.setIfInBounds_toArray, List.set_cons_zero, List.set_cons_succ]
    refine wpAnyH_take (i := 9) (v := ?_) rfl (by kernel_rfl) (by kernel_rfl) (by kernel_rfl) (fun _ _ _ h => h) (Or.inl ⟨by rfl, ?_⟩) (by assumption) ?_
    rotate_left
    · (intro w hSw; (try dsimp only at hSw); simp only [List.getElem_toArray, List.getElem_cons_succ, List.getElem_cons_zero]; go_simp; try with_reducible rfl)
    simp only [Act.put, List.getElem_toArray, List.getElem_cons_succ, List.getElem_cons_zero, List.setIfInBounds_toArray, List.set_cons_zero, List.set_cons_succ]
    refine wpAnyH_take (i := 10) (v := ?_) rfl (by kernel_rfl) (by kernel_rfl) (by kernel_rfl) (fun _ _ _ h => h) (Or.inl ⟨by rfl, ?_⟩) (by assumption) ?_
    rotate_left
    · (intro w hSw; (try dsimp only at hSw); simp only [List.getElem_toArray, List.getElem_cons_succ, List.getElem_cons_zero]; go_simp; try with_reducible rfl)
    simp only [Act.put, List.getElem_toArray, List.getElem_cons_succ, List.getElem_cons_zero, List.setIfInBounds_toArray, List.set_cons_zero, List.set_cons_succ]
    refine wpAnyH_take (i := 12) rfl (by kernel_rfl) (by kernel_rfl) (by kernel_rfl) (fun _ _ _ h => h) (yieldsIf_load_mid (by rfl) _ _ rfl _ _ rfl X _ (fun w hSw => hSw.2.1) hun27 rfl iX) (by assumption) ?_
    simp only [Act.put, List.getElem_toArray, List.getElem_cons_succ, List.getElem_cons_zero, List.setIfInBounds_toArray, List.set_cons_zero, List.set_cons_succ]
    refine wpAnyH_take (i := 13) rfl (by kernel_rfl) (by kernel_rfl) (by kernel_rfl) (fun _ _ _ h => h) (yieldsIf_load_mid (by rfl) _ _ rfl _ _ rfl Y _ (fun w hSw => hSw.2.2.1) hun27 rfl iY) (by assumption) ?_
    simp only [Act.put, List.getElem_toArray, List.getElem_cons_succ, List.getElem_cons_zero, List.setIfInBounds_toArray, List.set_cons_zero, List.set_cons_succ]
    refine wpAnyH_ready (rs := [11]) (by kernel_rfl) (by simp) ?_
    refine AllReadyH.cons rfl (fun K hK => ?_) AllReadyH.nil
    simp only [List.getElem_toArray, List.getElem_cons_succ, List.getElem_cons_zero]
    go_simp
    refine (cM.out _).mono ?_; rintro e w' ⟨rfl, hb⟩
    go_wp2_with fail
    refine hK.out _ _ ?_ (fun hHeld => ?_)
    · exact keep6 hHeld hb
    clear hK K
    try simp only [Act.put, List.setIfInBounds_toArray, List.set_cons_zero, List.set_cons_succ]
    refine wpAnyH_ready (rs := [14]) (by kernel_rfl) (by simp) ?_
    refine AllReadyH.cons rfl (fun K hK => ?_) AllReadyH.nil
    simp only [List.getElem_toArray, List.getElem_cons_succ, List.getElem_cons_zero]
    go_simp
    refine (rM.out _).mono ?_; rintro e w' ⟨rfl, hb⟩
    go_wp2_with fail
    refine hK.out _ _ ?_ (fun hHeld => ?_)
    · exact keep6 hHeld hb
    clear hK K
    try simp only [Act.put, List.setIfInBounds_toArray, List.set_cons_zero, List.set_cons_succ]
    refine wpAnyH_ready (rs := [15]) (by kernel_rfl) (by simp) ?_
    refine AllReadyH.cons rfl (fun K hK => ?_) AllReadyH.nil
    simp only [List.getElem_toArray, List.getElem_cons_succ, List.getElem_cons_zero]
    go_simp
    refine (wD.out _).mono ?_; rintro e w' ⟨rfl, hb⟩
    go_wp2_with fail
    refine hK.out _ _ ?_ (fun hHeld => ?_)
    · exact keep6 hHeld hb
    clear hK K
    try simp only [Act.put, List.setIfInBounds_toArray, List.set_cons_zero, List.set_cons_succ]
    refine wpAnyH_take (i := 16) (v := ?_) rfl (by kernel_rfl) (by kernel_rfl) (by kernel_rfl) (fun _ _ _ h => h) (Or.inl ⟨by rfl, ?_⟩) (by assumption) ?_
    rotate_left
    · (intro w hSw; (try dsimp only at hSw); simp only [List.getElem_toArray, List.getElem_cons_succ, List.getElem_cons_zero]; go_simp; try with_reducible rfl)
    simp only [Act.put, List.getElem_toArray, List.getElem_cons_succ, List.getElem_cons_zero, List.setIfInBounds_toArray, List.set_cons_zero, List.set_cons_succ]
    refine wpAnyH_take (i := 17) (v := ?_) rfl (by kernel_rfl) (by kernel_rfl) (by kernel_rfl) (fun _ _ _ h => h) (Or.inl ⟨by rfl, ?_⟩) (by assumption) ?_
    rotate_left
    · (intro w hSw; (try dsimp only at hSw); simp only [List.getElem_toArray, List.getElem_cons_succ, List.getElem_cons_zero]; go_simp; try with_reducible rfl)
    simp only [Act.put, List.getElem_toArray, List.getElem_cons_succ, List.getElem_cons_zero, List.setIfInBounds_toArray, List.set_cons_zero, List.set_cons_succ]
    refine wpAnyH_take (i := 18) (v := ?_) rfl (by kernel_rfl) (by kernel_rfl) (by kernel_rfl) (fun _ _ _ h => h) (Or.inl ⟨by rfl, ?_⟩) (by assumption) ?_
    rotate_left
    · (intro w hSw; (try dsimp only at hSw); simp only [List.getElem_toArray, List.getElem_cons_succ, List.getElem_cons_zero]; go_simp; try with_reducible rfl)
    simp only [Act.put, List.getElem_toArray, List.getElem_cons_succ, List.getElem_cons_zero, List.setIfInBounds_toArray, List.set_cons_zero, List.set_cons_succ]
    refine wpAnyH_ready (rs := [19]) (by kernel_rfl) (by simp) ?_
    refine AllReadyH.cons rfl (fun K hK => ?_) AllReadyH.nil
    simp only [List.getElem_toArray, List.getElem_cons_succ, List.getElem_cons_zero]
    go_simp
    refine (awake_any _).mono ?_; rintro e w' ⟨rfl, hb⟩
    go_wp2_with fail
    refine hK.out _ _ ?_ (fun hHeld => ?_)
    · exact keep6 hHeld hb
    clear hK K
    try simp only [Act.put, List.setIfInBounds_toArray, List.set_cons_zero, List.set_cons_succ]
    refine wpAnyH_take (i := 20) (v := ?_) rfl (by kernel_rfl) (by kernel_rfl) (by kernel_rfl) (fun _ _ _ h => h) (Or.inl ⟨by rfl, ?_⟩) (by assumption) ?_
    rotate_left
    · (intro w hSw; (try dsimp only at hSw); simp only [List.getElem_toArray, List.getElem_cons_succ, List.getElem_cons_zero]; go_simp; try with_reducible rfl)
    simp only [Act.put, List.getElem_toArray, List.getElem_cons_succ, List.getElem_cons_zero, List.setIfInBounds_toArray, List.set_cons_zero, List.set_cons_succ]
    refine wpAnyH_take (i := 21) (v := ?_) rfl (by kernel_rfl) (by kernel_rfl) (by kernel_rfl) (fun _ _ _ h => h) (Or.inl ⟨by rfl, ?_⟩) (by assumption) ?_
    rotate_left
    · (intro w hSw; (try dsimp only at hSw); simp only [List.getElem_toArray, List.getElem_cons_succ, List.getElem_cons_zero]; go_simp; try with_reducible rfl)
    simp only [Act.put, List.getElem_toArray, List.getElem_cons_succ, List.getElem_cons_zero, List.setIfInBounds_toArray, List.set_cons_zero, List.set_cons_succ]
    refine wpAnyH_done (by kernel_rfl) ?_ _
    go_wp2
    go_ret
    exact ⟨rfl, below_two (below_two BW.out b0) hHeld.1⟩
end Go.Proofs.Ytlcjkmgeaiclbaa
