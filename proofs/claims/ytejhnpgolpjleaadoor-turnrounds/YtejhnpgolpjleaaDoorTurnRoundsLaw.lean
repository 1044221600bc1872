/- Proved here: for every block b and every key TurnRounds returns true and leaves its arguments as they were (what comes of any block in a round, in a last one, and any box, is what the reference has), where the two tables of coefficients lie as the program's text lays them; no other condition. -/
import Derived.Test.YtejhnpgolpjleaaDoorUndone
import Derived.Test.YtejhnpgolpjleaaDoorRRounds
import Derived.Test.YtejhnpgolpjleaaDoorNil
namespace Go.Proofs.YtejhnpgolpjleaaDoor
open Go.ChangeShapes Go.WideShapes Go.ChangeAt Go.RowKit

theorem kept5 {W0 W W' : World} {p q r : Nat} {X Y B : List Value} {a b : Addr} {u v : Value} (h : Below W0.heap.size W0 W ∧ W.rangeAt p 0 X ∧ W.rangeAt q 0 Y ∧ W.rangeAt r 0 B ∧ W.cell? a = some u ∧ W.cell? b = some v) (hb : Below W.heap.size W W') : Below W0.heap.size W0 W' ∧ W'.rangeAt p 0 X ∧ W'.rangeAt q 0 Y ∧ W'.rangeAt r 0 B ∧ W'.cell? a = some u ∧ W'.cell? b = some v :=
  ⟨below_two h.1 hb, fun j v hj => Go.Proofs.YtejhnpgolpjleaaDoor.later hb (h.2.1 j v hj), fun j v hj => Go.Proofs.YtejhnpgolpjleaaDoor.later hb (h.2.2.1 j v hj), fun j v hj => Go.Proofs.YtejhnpgolpjleaaDoor.later hb (h.2.2.2.1 j v hj), Go.Proofs.YtejhnpgolpjleaaDoor.later hb h.2.2.2.2.1, Go.Proofs.YtejhnpgolpjleaaDoor.later hb h.2.2.2.2.2⟩
theorem block_later {W W' : World} {p : Nat} {o : Obj} (h : W.heap[p]? = some o) (hb : Below W.heap.size W W') : W'.heap[p]? = some o := (hb.block p (Array.getElem?_eq_some_iff.1 h).1).trans h
theorem range_of {W : World} {p : Nat} {X : List Value} {t : TypeId} (h : W.heap[p]? = some (.cells X.toArray t (0, 0))) : W.rangeAt p 0 X := fun j v hj => by
  rw [Nat.zero_add, cell_of_row W p _ _ _ _ h]; simpa using hj
set_option linter.unusedSimpArgs false in
set_option maxRecDepth 100000 in
set_option maxHeartbeats 8000000 in
theorem turnrounds_core (X Y A C B Z : List Value) (x0 s0 : Nat) (hx : x0 < 256) (hX : X.length = 16) (hY : Y.length = 16) (hB : B.length = 512) (oB : Hid (B.toArray.all (·.oneCell') = true)) (w : World)
    (hX0 : Hid (X[0]? = some (.int .u8 (x0 : Nat)))) (hBs : Hid (B[x0]? = some (.int .u8 (s0 : Nat))))
    (hz : ∀ w, (zeroValue 22).run Tryd.prog w = .ok (.agg Z.toArray) w) (ZB : List Value) (hZB : ZB.length = 512) (hzB : ∀ w, (zeroValue 27).run Tryd.prog w = .ok (.agg ZB.toArray) w)
    (cT : Hid (∀ w', Below w.heap.size w w' → Calls Tryd.prog 11 #[] w' fun e w'' => (∃ g, e = .returned (.pointer (some ⟨g, 0, none⟩)) ∧ IsTab w'' g) ∧ Below w'.heap.size w' w''))
    (cA : Hid (∀ w', Below w.heap.size w w' → Calls Tryd.prog 18 #[] w' fun e w'' => e = .returned (.bool true) ∧ Below w'.heap.size w' w''))
    (cM : Hid (∀ w', Calls Tryd.prog 12 #[] w' fun e w'' => e = .returned (.agg B.toArray) ∧ Below w'.heap.size w' w''))
    (hEA : ∀ w, (Op.equalIn 10000 22 (.agg A.toArray) (.agg A.toArray)).run Tryd.prog w = .ok true w)
    (hEC : ∀ w, (Op.equalIn 10000 22 (.agg C.toArray) (.agg C.toArray)).run Tryd.prog w = .ok true w)
    (hEZ : ∀ w, (Op.equalIn 10000 22 (.agg Z.toArray) (.agg Z.toArray)).run Tryd.prog w = .ok true w)
    (cR : Hid (∀ g w', IsTab w' g → Calls Tryd.prog 13 #[.pointer (some ⟨g, 0, none⟩), .agg X.toArray, .agg Y.toArray] w' fun e w'' => e = .returned (.agg A.toArray) ∧ Below w'.heap.size w' w''))
    (cL : Hid (∀ g w', IsTab w' g → Calls Tryd.prog 14 #[.pointer (some ⟨g, 0, none⟩), .agg X.toArray, .agg Y.toArray] w' fun e w'' => e = .returned (.agg C.toArray) ∧ Below w'.heap.size w' w''))
    (dR : Hid (∀ w', Calls Tryd.prog 16 #[.agg B.toArray, .agg X.toArray, .agg Y.toArray] w' fun e w'' => e = .returned (.agg A.toArray) ∧ Below w'.heap.size w' w''))
    (dL : Hid (∀ w', Calls Tryd.prog 17 #[.agg B.toArray, .agg X.toArray, .agg Y.toArray] w' fun e w'' => e = .returned (.agg C.toArray) ∧ Below w'.heap.size w' w''))
    (nR : Hid (∀ w', Calls Tryd.prog 13 #[.pointer none, .agg X.toArray, .agg Y.toArray] w' fun e w'' => e = .returned (.agg Z.toArray) ∧ Below w'.heap.size w' w''))
    (nL : Hid (∀ w', Calls Tryd.prog 14 #[.pointer none, .agg X.toArray, .agg Y.toArray] w' fun e w'' => e = .returned (.agg Z.toArray) ∧ Below w'.heap.size w' w''))
    (hB0 : Hid (∀ g w', IsTab w' g → Calls Tryd.prog 15 #[.pointer (some ⟨g, 0, none⟩), .int .u8 (x0 : Nat)] w' fun e w'' => e = .returned (.int .u8 (s0 : Nat)) ∧ w'' = w'))
    (nB : Hid (∀ w', Calls Tryd.prog 15 #[.pointer none, .int .u8 (x0 : Nat)] w' fun e w'' => e = .returned (.int .u8 0) ∧ w'' = w')) :
    Calls Tryd.prog 3 #[.agg X.toArray, .agg Y.toArray] w fun e w' => e = .returned (.bool true) ∧ Below w.heap.size w w' := by
  have iX : (Tryd.prog.info? 22).map (·.size) = some X.length := by rw [hX]; rfl
  have iY : (Tryd.prog.info? 22).map (·.size) = some Y.length := by rw [hY]; rfl
  have iB : (Tryd.prog.info? 27).map (·.size) = some B.length := by rw [hB]; rfl
  have sX : X.toArray.size = 16 := by rw [List.size_toArray, hX]
  have sY : Y.toArray.size = 16 := by rw [List.size_toArray, hY]
  have sB : B.toArray.size = 512 := by rw [List.size_toArray, hB]
  have sZB : ZB.toArray.size = 512 := by rw [List.size_toArray, hZB]
  have b0 : Below w.heap.size w ((w.alloc (.cells X.toArray 22)).alloc (.cells Y.toArray 22)) := below_alloc (below_alloc (Below.refl _ _) _) _
  have X0 := hide (heap_alloc2_old w (.cells X.toArray 22) (.cells Y.toArray 22))
  have Y0 := hide (heap_alloc2_new w (.cells X.toArray 22) (.cells Y.toArray 22))
  have K0 := hide (cT.out _ b0)
  have B0 := hide b0
  clear b0
  go_enter Tryd.func3, Tryd.ntmps3
  go_wp2_with fail
  refine (K0.out).mono ?_
  rintro e W1 ⟨⟨g, rfl, ht⟩, b1⟩
  have HT := hide ht
  have B1 := hide b1
  clear ht b1
  go_wp2_with fail
  refine (cM.out _).mono ?_
  rintro e W2 ⟨rfl, b2⟩
  obtain ⟨nb, nr⟩ := new_row W2 ZB.toArray B.toArray 27
  have b3 := below_two (below_two B1.out b2) nb
  have X3 := hide (block_later X0.out b3)
  have Y3 := hide (block_later Y0.out b3)
  have HT3 := hide (HT.out.later (below_two b2 nb))
  have B3 := hide (below_two B0.out b3)
  have NR := hide nr
  clear b3 nb nr X0 Y0 K0 HT B0 B1 b2
  go_wp2_with (first
    | (refine wpList_store_row rfl 27 _ _ rfl W2.heap.size B.toArray rfl rfl 27 _ (heap_alloc_new _ _) (by rw [sB]; rfl) (by rw [sB, sZB]) oB.out ?_)
    | (refine wpList_load_row rfl 22 _ rfl w.heap.size rfl 22 X.toArray (0, 0) _ X3.out Tryd.underlying22 rfl (by rw [sX]; rfl) ?_)
    | (refine wpList_load_row rfl 22 _ rfl (w.heap.size + 1) rfl 22 Y.toArray (0, 0) _ Y3.out Tryd.underlying22 rfl (by rw [sY]; rfl) ?_))
  obtain ⟨p, hp⟩ : ∃ p, p = W2.heap.size := ⟨_, rfl⟩
  obtain ⟨W3, hW3⟩ : ∃ W3, W3 = (W2.alloc (.cells ZB.toArray 27)).setRow W2.heap.size B.toArray := ⟨_, rfl⟩
  rw [← hW3] at X3 Y3 HT3 B3 NR ⊢
  rw [← hp] at NR ⊢
  clear hp hW3 hzB
  refine (nR.out _).mono ?_
  rintro e W4 ⟨rfl, b4⟩
  have X4 := hide (block_later X3.out b4)
  have Y4 := hide (block_later Y3.out b4)
  go_wp2_with (first
    | (refine wpList_load_g (by rfl) 22 _ rfl w.heap.size 0 rfl X _ (range_of X4.out) Tryd.underlying22 rfl iX ?_)
    | (refine wpList_load_g (by rfl) 22 _ rfl (w.heap.size + 1) 0 rfl Y _ (range_of Y4.out) Tryd.underlying22 rfl iY ?_))
  refine (nL.out _).mono ?_
  rintro e W0 ⟨rfl, b5⟩
  have X5 := hide (block_later X4.out b5)
  have Y5 := hide (block_later Y4.out b5)
  have b6 := below_two b4 b5
  have HT0 := hide (HT3.out.later b6)
  have BW := hide (below_two B3.out b6)
  have NP := hide (block_later NR.out b6)
  have rX : W0.rangeAt w.heap.size 0 X := range_of X5.out
  have rY : W0.rangeAt (w.heap.size + 1) 0 Y := range_of Y5.out
  have rB : W0.rangeAt p 0 B := range_of NP.out
  have e0 : W0.cell? ⟨w.heap.size, 0, none⟩ = some (.int .u8 (x0 : Nat)) := rX 0 _ hX0.out
  have e1 : W0.cell? ⟨p, x0, none⟩ = some (.int .u8 (s0 : Nat)) := by
    have := rB x0 _ hBs.out
    rw [Nat.zero_add] at this; exact this
  have c1 := hide (fun w' (hb : Below W0.heap.size W0 w') => cR.out g w' (HT0.out.later hb))
  have c2 := hide (fun w' (_ : Below W0.heap.size W0 w') => dR.out w')
  have c3 := hide (fun w' (hb : Below W0.heap.size W0 w') => cL.out g w' (HT0.out.later hb))
  have c4 := hide (fun w' (_ : Below W0.heap.size W0 w') => dL.out w')
  have cW := hide (fun w' (hb : Below W0.heap.size W0 w') => cA.out w' (below_two BW.out hb))
  have cB := hide (fun w' (hb : Below W0.heap.size W0 w') => hB0.out g w' (HT0.out.later hb))
  have i1 : (x0 : Int) < 256 := by omega
  clear b4 b5 b6 X3 Y3 X4 Y4 X5 Y5 HT3 B3 NR NP
  have RX := hide rX
  have RY := hide rY
  have RB := hide rB
  clear rX rY rB
  go_wp2_with fail
  refine (nB.out _).mono ?_
  rintro e x9 ⟨rfl, e9⟩
  rw [e9]
  clear e9
  have rX := RX.out
  have rY := RY.out
  have rB := RB.out
  go_wp2_with fail
  refine wp_region_held_drew (S := fun w' => Below W0.heap.size W0 w' ∧ w'.rangeAt w.heap.size 0 X ∧ w'.rangeAt (w.heap.size + 1) 0 Y ∧ w'.rangeAt p 0 B ∧ w'.cell? ⟨w.heap.size, 0, none⟩ = some (.int .u8 (x0 : Nat)) ∧ w'.cell? ⟨p, x0, none⟩ = some (.int .u8 (s0 : Nat))) (by kernel_rfl) ?_ (fun hHeld => ?_)
  · exact ⟨(Below.refl _ _).drew, rX, rY, rB, e0, e1⟩
  refine wpAnyH_take (i := 0) (v := ?_) rfl (by kernel_rfl) (by kernel_rfl) (by kernel_rfl) (fun _ _ _ h => h) (Or.inl ⟨by rfl, ?_⟩) (by assumption) ?_
  rotate_left
  · (intro w hSw; (try dsimp only at hSw); simp only [List.getElem_toArray, List.getElem_cons_zero]; go_simp; try with_reducible rfl)
  simp only [Act.put, List.getElem_toArray, List.getElem_cons_zero, List.setIfInBounds_toArray, List.set_cons_zero, List.set_cons_succ]
  refine wpAnyH_take (i := 1) rfl (by kernel_rfl) (by kernel_rfl) (by kernel_rfl) (fun _ _ _ h => h) (yieldsIf_load_mid (by rfl) _ _ rfl _ _ rfl X _ (fun w hSw => hSw.2.1) Tryd.underlying22 rfl iX) (by assumption) ?_
  simp only [Act.put, List.getElem_toArray, List.getElem_cons_succ, List.getElem_cons_zero, List.setIfInBounds_toArray, List.set_cons_zero, List.set_cons_succ]
  refine wpAnyH_take (i := 2) rfl (by kernel_rfl) (by kernel_rfl) (by kernel_rfl) (fun _ _ _ h => h) (yieldsIf_load_mid (by rfl) _ _ rfl _ _ rfl Y _ (fun w hSw => hSw.2.2.1) Tryd.underlying22 rfl iY) (by assumption) ?_
  simp only [Act.put, List.getElem_toArray, List.getElem_cons_succ, List.getElem_cons_zero, List.setIfInBounds_toArray, List.set_cons_zero, List.set_cons_succ]
  refine wpAnyH_take (i := 4) rfl (by kernel_rfl) (by kernel_rfl) (by kernel_rfl) (fun _ _ _ h => h) (yieldsIf_load_mid (by rfl) _ _ rfl _ _ rfl B _ (fun w hSw => hSw.2.2.2.1) Tryd.underlying27 rfl iB) (by assumption) ?_
  simp only [Act.put, List.getElem_toArray, List.getElem_cons_succ, List.getElem_cons_zero, List.setIfInBounds_toArray, List.set_cons_zero, List.set_cons_succ]
  refine wpAnyH_take (i := 5) rfl (by kernel_rfl) (by kernel_rfl) (by kernel_rfl) (fun _ _ _ h => h) (yieldsIf_load_mid (by rfl) _ _ rfl _ _ rfl X _ (fun w hSw => hSw.2.1) Tryd.underlying22 rfl iX) (by assumption) ?_
  simp only [Act.put, List.getElem_toArray, List.getElem_cons_succ, List.getElem_cons_zero, List.setIfInBounds_toArray, List.set_cons_zero, List.set_cons_succ]
  refine wpAnyH_take (i := 6) rfl (by kernel_rfl) (by kernel_rfl) (by kernel_rfl) (fun _ _ _ h => h) (yieldsIf_load_mid (by rfl) _ _ rfl _ _ rfl Y _ (fun w hSw => hSw.2.2.1) Tryd.underlying22 rfl iY) (by assumption) ?_
  simp only [Act.put, List.getElem_toArray, List.getElem_cons_succ, List.getElem_cons_zero, List.setIfInBounds_toArray, List.set_cons_zero, List.set_cons_succ]
  refine wpAnyH_ready (rs := [3]) (by kernel_rfl) (by simp) ?_
  refine AllReadyH.cons rfl (fun K hK => ?_) AllReadyH.nil
  simp only [List.getElem_toArray, List.getElem_cons_succ, List.getElem_cons_zero]
  go_simp
  refine (c1.out _ hHeld.1).mono ?_
  rintro e x1 ⟨rfl, bb1⟩
  go_wp2_with fail
  refine hK.out _ _ ?_ (fun hHeld => ?_)
  · exact kept5 hHeld bb1
  clear hK K
  try simp only [Act.put, List.setIfInBounds_toArray, List.set_cons_zero, List.set_cons_succ]
  refine wpAnyH_ready (rs := [7]) (by kernel_rfl) (by simp) ?_
  refine AllReadyH.cons rfl (fun K hK => ?_) AllReadyH.nil
  simp only [List.getElem_toArray, List.getElem_cons_succ, List.getElem_cons_zero]
  go_simp
  refine (c2.out _ hHeld.1).mono ?_
  rintro e x2 ⟨rfl, bb2⟩
  go_wp2_with fail
  refine hK.out _ _ ?_ (fun hHeld => ?_)
  · exact kept5 hHeld bb2
  clear hK K
  try simp only [Act.put, List.setIfInBounds_toArray, List.set_cons_zero, List.set_cons_succ]
  refine wpAnyH_take (i := 8) (v := ?_) rfl (by kernel_rfl) (by kernel_rfl) (by kernel_rfl) (fun _ _ _ h => h) (Or.inl ⟨by rfl, ?_⟩) (by assumption) ?_
  rotate_left
  · (intro w hSw; (try dsimp only at hSw); simp only [List.getElem_toArray, List.getElem_cons_succ, List.getElem_cons_zero]; go_simp; try with_reducible rfl)
  simp only [Act.put, List.getElem_toArray, List.getElem_cons_succ, List.getElem_cons_zero, List.setIfInBounds_toArray, List.set_cons_zero, List.set_cons_succ]
  refine wpAnyH_take (i := 9) (v := ?_) rfl (by kernel_rfl) (by kernel_rfl) (by kernel_rfl) (fun _ _ _ h => h) (Or.inl ⟨by rfl, ?_⟩) (by assumption) ?_
  rotate_left
  · (intro w hSw; (try dsimp only at hSw); simp only [List.getElem_toArray, List.getElem_cons_succ, List.getElem_cons_zero]; go_simp; try with_reducible rfl)
  simp only [Act.put, List.getElem_toArray, List.getElem_cons_succ, List.getElem_cons_zero, List.setIfInBounds_toArray, List.set_cons_zero, List.set_cons_succ]
  refine wpAnyH_take (i := 10) (v := ?_) rfl (by kernel_rfl) (by kernel_rfl) (by kernel_rfl) (fun _ _ _ h => h) (Or.inl ⟨by rfl, ?_⟩) (by assumption) ?_
  rotate_left
  · (intro w hSw; (try dsimp only at hSw); simp only [List.getElem_toArray, List.getElem_cons_succ, List.getElem_cons_zero]; go_simp; try with_reducible rfl)
  simp only [Act.put, List.getElem_toArray, List.getElem_cons_succ, List.getElem_cons_zero, List.setIfInBounds_toArray, List.set_cons_zero, List.set_cons_succ]
  refine wpAnyH_take (i := 11) rfl (by kernel_rfl) (by kernel_rfl) (by kernel_rfl) (fun _ _ _ h => h) (yieldsIf_load_mid (by rfl) _ _ rfl _ _ rfl X _ (fun w hSw => hSw.2.1) Tryd.underlying22 rfl iX) (by assumption) ?_
  simp only [Act.put, List.getElem_toArray, List.getElem_cons_succ, List.getElem_cons_zero, List.setIfInBounds_toArray, List.set_cons_zero, List.set_cons_succ]
  refine wpAnyH_take (i := 12) rfl (by kernel_rfl) (by kernel_rfl) (by kernel_rfl) (fun _ _ _ h => h) (yieldsIf_load_mid (by rfl) _ _ rfl _ _ rfl Y _ (fun w hSw => hSw.2.2.1) Tryd.underlying22 rfl iY) (by assumption) ?_
  simp only [Act.put, List.getElem_toArray, List.getElem_cons_succ, List.getElem_cons_zero, List.setIfInBounds_toArray, List.set_cons_zero, List.set_cons_succ]
  refine wpAnyH_take (i := 14) rfl (by kernel_rfl) (by kernel_rfl) (by kernel_rfl) (fun _ _ _ h => h) (yieldsIf_load_mid (by rfl) _ _ rfl _ _ rfl B _ (fun w hSw => hSw.2.2.2.1) Tryd.underlying27 rfl iB) (by assumption) ?_
  simp only [Act.put, List.getElem_toArray, List.getElem_cons_succ, List.getElem_cons_zero, List.setIfInBounds_toArray, List.set_cons_zero, List.set_cons_succ]
  refine wpAnyH_take (i := 15) rfl (by kernel_rfl) (by kernel_rfl) (by kernel_rfl) (fun _ _ _ h => h) (yieldsIf_load_mid (by rfl) _ _ rfl _ _ rfl X _ (fun w hSw => hSw.2.1) Tryd.underlying22 rfl iX) (by assumption) ?_
  simp only [Act.put, List.getElem_toArray, List.getElem_cons_succ, List.getElem_cons_zero, List.setIfInBounds_toArray, List.set_cons_zero, List.set_cons_succ]
  refine wpAnyH_take (i := 16) rfl (by kernel_rfl) (by kernel_rfl) (by kernel_rfl) (fun _ _ _ h => h) (yieldsIf_load_mid (by rfl) _ _ rfl _ _ rfl Y _ (fun w hSw => hSw.2.2.1) Tryd.underlying22 rfl iY) (by assumption) ?_
  simp only [Act.put, List.getElem_toArray, List.getElem_cons_succ, List.getElem_cons_zero, List.setIfInBounds_toArray, List.set_cons_zero, List.set_cons_succ]
  refine wpAnyH_ready (rs := [13]) (by kernel_rfl) (by simp) ?_
  refine AllReadyH.cons rfl (fun K hK => ?_) AllReadyH.nil
  simp only [List.getElem_toArray, List.getElem_cons_succ, List.getElem_cons_zero]
  go_simp
  refine (c3.out _ hHeld.1).mono ?_
  rintro e x3 ⟨rfl, bb3⟩
  go_wp2_with fail
  refine hK.out _ _ ?_ (fun hHeld => ?_)
  · exact kept5 hHeld bb3
  clear hK K
  try simp only [Act.put, List.setIfInBounds_toArray, List.set_cons_zero, List.set_cons_succ]
  refine wpAnyH_ready (rs := [17]) (by kernel_rfl) (by simp) ?_
  refine AllReadyH.cons rfl (fun K hK => ?_) AllReadyH.nil
  simp only [List.getElem_toArray, List.getElem_cons_succ, List.getElem_cons_zero]
  go_simp
  refine (c4.out _ hHeld.1).mono ?_
  rintro e x4 ⟨rfl, bb4⟩
  go_wp2_with fail
  refine hK.out _ _ ?_ (fun hHeld => ?_)
  · exact kept5 hHeld bb4
  clear hK K
  try simp only [Act.put, List.setIfInBounds_toArray, List.set_cons_zero, List.set_cons_succ]
  refine wpAnyH_take (i := 18) (v := ?_) rfl (by kernel_rfl) (by kernel_rfl) (by kernel_rfl) (fun _ _ _ h => h) (Or.inl ⟨by rfl, ?_⟩) (by assumption) ?_
  rotate_left
  · (intro w hSw; (try dsimp only at hSw); simp only [List.getElem_toArray, List.getElem_cons_succ, List.getElem_cons_zero]; go_simp; try with_reducible rfl)
  simp only [Act.put, List.getElem_toArray, List.getElem_cons_succ, List.getElem_cons_zero, List.setIfInBounds_toArray, List.set_cons_zero, List.set_cons_succ]
  refine wpAnyH_take (i := 19) (v := ?_) rfl (by kernel_rfl) (by kernel_rfl) (by kernel_rfl) (fun _ _ _ h => h) (Or.inl ⟨by rfl, ?_⟩) (by assumption) ?_
  rotate_left
  · (intro w hSw; (try dsimp only at hSw); simp only [List.getElem_toArray, List.getElem_cons_succ, List.getElem_cons_zero]; go_simp; try with_reducible rfl)
  simp only [Act.put, List.getElem_toArray, List.getElem_cons_succ, List.getElem_cons_zero, List.setIfInBounds_toArray, List.set_cons_zero, List.set_cons_succ]
  refine wpAnyH_take (i := 20) (v := ?_) rfl (by kernel_rfl) (by kernel_rfl) (by kernel_rfl) (fun _ _ _ h => h) (Or.inl ⟨by rfl, ?_⟩) (by assumption) ?_
  rotate_left
  · (intro w hSw; (try dsimp only at hSw); simp only [List.getElem_toArray, List.getElem_cons_succ, List.getElem_cons_zero]; go_simp; try with_reducible rfl)
  simp only [Act.put, List.getElem_toArray, List.getElem_cons_succ, List.getElem_cons_zero, List.setIfInBounds_toArray, List.set_cons_zero, List.set_cons_succ]
  refine wpAnyH_take (i := 21) (v := ?_) rfl (by kernel_rfl) (by kernel_rfl) (by kernel_rfl) (fun _ _ _ h => h) (Or.inl ⟨by rfl, ?_⟩) (by assumption) ?_
  rotate_left
  · (intro w hSw; (try dsimp only at hSw); simp only [List.getElem_toArray, List.getElem_cons_succ, List.getElem_cons_zero]; go_simp; try with_reducible rfl)
  simp only [Act.put, List.getElem_toArray, List.getElem_cons_succ, List.getElem_cons_zero, List.setIfInBounds_toArray, List.set_cons_zero, List.set_cons_succ]
  refine wpAnyH_take (i := 22) (v := ?_) rfl (by kernel_rfl) (by kernel_rfl) (by kernel_rfl) (fun _ _ _ h => h) (Or.inl ⟨by rfl, ?_⟩) (by assumption) ?_
  rotate_left
  · (intro w hSw; (try dsimp only at hSw); simp only [List.getElem_toArray, List.getElem_cons_succ, List.getElem_cons_zero]; go_simp; try with_reducible rfl)
  simp only [Act.put, List.getElem_toArray, List.getElem_cons_succ, List.getElem_cons_zero, List.setIfInBounds_toArray, List.set_cons_zero, List.set_cons_succ]
  refine wpAnyH_take (i := 23) (v := ?_) rfl (by kernel_rfl) (by kernel_rfl) (by kernel_rfl) (fun _ _ _ h => h) (Or.inl ⟨by rfl, ?_⟩) (by assumption) ?_
  rotate_left
  · (intro w hSw; (try dsimp only at hSw); simp only [List.getElem_toArray, List.getElem_cons_succ, List.getElem_cons_zero]; go_simp; try with_reducible rfl)
  simp only [Act.put, List.getElem_toArray, List.getElem_cons_succ, List.getElem_cons_zero, List.setIfInBounds_toArray, List.set_cons_zero, List.set_cons_succ]
  refine wpAnyH_take (i := 25) (v := ?_) rfl (by kernel_rfl) (by kernel_rfl) (by kernel_rfl) (fun _ _ _ h => h) (Or.inl ⟨by rfl, ?_⟩) (by assumption) ?_
  rotate_left
  · (intro w hSw; (try dsimp only at hSw); simp only [List.getElem_toArray, List.getElem_cons_succ, List.getElem_cons_zero]; go_simp; try with_reducible rfl)
  simp only [Act.put, List.getElem_toArray, List.getElem_cons_succ, List.getElem_cons_zero, List.setIfInBounds_toArray, List.set_cons_zero, List.set_cons_succ]
  refine wpAnyH_take (i := 26) (v := ?_) rfl (by kernel_rfl) (by kernel_rfl) (by kernel_rfl) (fun _ _ _ h => h) (Or.inl ⟨by rfl, ?_⟩) (by assumption) ?_
  rotate_left
  · (intro w hSw; (try dsimp only at hSw); simp only [List.getElem_toArray, List.getElem_cons_succ, List.getElem_cons_zero]; go_simp; try with_reducible rfl)
  simp only [Act.put, List.getElem_toArray, List.getElem_cons_succ, List.getElem_cons_zero, List.setIfInBounds_toArray, List.set_cons_zero, List.set_cons_succ]
  refine wpAnyH_take (i := 27) (v := ?_) rfl (by kernel_rfl) (by kernel_rfl) (by kernel_rfl) (fun _ _ _ h => h) (Or.inl ⟨by rfl, ?_⟩) (by assumption) ?_
  rotate_left
  · (intro w hSw; (try dsimp only at hSw); simp only [List.getElem_toArray, List.getElem_cons_succ, List.getElem_cons_zero]; go_simp; try with_reducible rfl)
  simp only [Act.put, List.getElem_toArray, List.getElem_cons_succ, List.getElem_cons_zero, List.setIfInBounds_toArray, List.set_cons_zero, List.set_cons_succ]
  refine wpAnyH_take (i := 28) (v := ?_) rfl (by kernel_rfl) (by kernel_rfl) (by kernel_rfl) (fun _ _ _ h => h) (Or.inl ⟨by rfl, ?_⟩) (by assumption) ?_
  rotate_left
  · (intro w hSw; (try dsimp only at hSw); simp only [List.getElem_toArray, List.getElem_cons_succ, List.getElem_cons_zero]; go_simp; try with_reducible rfl)
  simp only [Act.put, List.getElem_toArray, List.getElem_cons_succ, List.getElem_cons_zero, List.setIfInBounds_toArray, List.set_cons_zero, List.set_cons_succ]
  refine wpAnyH_take (i := 29) (v := ?_) rfl (by kernel_rfl) (by kernel_rfl) (by kernel_rfl) (fun _ _ _ h => h) (Or.inl ⟨by rfl, ?_⟩) (by assumption) ?_
  rotate_left
  · (intro w hSw; (try dsimp only at hSw); simp only [List.getElem_toArray, List.getElem_cons_succ, List.getElem_cons_zero]; go_simp; try with_reducible rfl)
  simp only [Act.put, List.getElem_toArray, List.getElem_cons_succ, List.getElem_cons_zero, List.setIfInBounds_toArray, List.set_cons_zero, List.set_cons_succ]
  refine wpAnyH_ready (rs := [24]) (by kernel_rfl) (by simp) ?_
  refine AllReadyH.cons rfl (fun K hK => ?_) AllReadyH.nil
  simp only [List.getElem_toArray, List.getElem_cons_succ, List.getElem_cons_zero]
  go_simp
  refine (cB.out _ hHeld.1).mono ?_
  rintro e x5 ⟨rfl, rfl⟩
  go_wp2_with fail
  refine hK.out _ _ ?_ (fun hHeld => ?_)
  · exact hHeld
  clear hK K
  try simp only [Act.put, List.setIfInBounds_toArray, List.set_cons_zero, List.set_cons_succ]
  refine wpAnyH_take (i := 30) (v := ?_) rfl (by kernel_rfl) (by kernel_rfl) (by kernel_rfl) (fun _ _ _ h => h) (Or.inl ⟨by rfl, ?_⟩) (by assumption) ?_
  rotate_left
  · (intro w hSw; (try dsimp only at hSw); simp only [List.getElem_toArray, List.getElem_cons_succ, List.getElem_cons_zero]; go_simp; try with_reducible rfl)
  simp only [Act.put, List.getElem_toArray, List.getElem_cons_succ, List.getElem_cons_zero, List.setIfInBounds_toArray, List.set_cons_zero, List.set_cons_succ]
  refine wpAnyH_take (i := 31) (v := ?_) rfl (by kernel_rfl) (by kernel_rfl) (by kernel_rfl) (fun _ _ _ h => h) (Or.inl ⟨by rfl, ?_⟩) (by assumption) ?_
  rotate_left
  · (intro w hSw; (try dsimp only at hSw); simp only [List.getElem_toArray, List.getElem_cons_succ, List.getElem_cons_zero]; go_simp; try with_reducible rfl)
  simp only [Act.put, List.getElem_toArray, List.getElem_cons_succ, List.getElem_cons_zero, List.setIfInBounds_toArray, List.set_cons_zero, List.set_cons_succ]
  refine wpAnyH_take (i := 32) (v := ?_) rfl (by kernel_rfl) (by kernel_rfl) (by kernel_rfl) (fun _ _ _ h => h) (Or.inl ⟨by rfl, ?_⟩) (by assumption) ?_
  rotate_left
  · (intro w hSw; (try dsimp only at hSw); simp only [List.getElem_toArray, List.getElem_cons_succ, List.getElem_cons_zero]; go_simp; try with_reducible rfl)
  simp only [Act.put, List.getElem_toArray, List.getElem_cons_succ, List.getElem_cons_zero, List.setIfInBounds_toArray, List.set_cons_zero, List.set_cons_succ]
  refine wpAnyH_ready (rs := [33]) (by kernel_rfl) (by simp) ?_
  refine AllReadyH.cons rfl (fun K hK => ?_) AllReadyH.nil
  simp only [List.getElem_toArray, List.getElem_cons_succ, List.getElem_cons_zero]
  go_simp
  refine (cW.out _ hHeld.1).mono ?_
  rintro e x6 ⟨rfl, bb6⟩
  go_wp2_with fail
  refine hK.out _ _ ?_ (fun hHeld => ?_)
  · exact kept5 hHeld bb6
  clear hK K
  try simp only [Act.put, List.setIfInBounds_toArray, List.set_cons_zero, List.set_cons_succ]
  refine wpAnyH_take (i := 34) (v := ?_) rfl (by kernel_rfl) (by kernel_rfl) (by kernel_rfl) (fun _ _ _ h => h) (Or.inl ⟨by rfl, ?_⟩) (by assumption) ?_
  rotate_left
  · (intro w hSw; (try dsimp only at hSw); simp only [List.getElem_toArray, List.getElem_cons_succ, List.getElem_cons_zero]; go_simp; try with_reducible rfl)
  simp only [Act.put, List.getElem_toArray, List.getElem_cons_succ, List.getElem_cons_zero, List.setIfInBounds_toArray, List.set_cons_zero, List.set_cons_succ]
  refine wpAnyH_take (i := 35) (v := ?_) rfl (by kernel_rfl) (by kernel_rfl) (by kernel_rfl) (fun _ _ _ h => h) (Or.inl ⟨by rfl, ?_⟩) (by assumption) ?_
  rotate_left
  · (intro w hSw; (try dsimp only at hSw); simp only [List.getElem_toArray, List.getElem_cons_succ, List.getElem_cons_zero]; go_simp; try with_reducible rfl)
  simp only [Act.put, List.getElem_toArray, List.getElem_cons_succ, List.getElem_cons_zero, List.setIfInBounds_toArray, List.set_cons_zero, List.set_cons_succ]
  refine wpAnyH_done (by kernel_rfl) ?_ _
  go_wp2
  go_ret
  exact ⟨rfl, below_two BW.out hHeld.1⟩
theorem turnrounds_walk (w : World) (hl : Laid w) (bs : List UInt8) (hb : bs.length = 16) (ks : List UInt8) (hk : ks.length = 16) :
    Calls Tryd.prog 3 #[.agg (bcells bs).toArray, .agg (bcells ks).toArray] w fun e w' => e = .returned (.bool true) ∧ Below w.heap.size w w' := by
  rw [bcells_bc bs, bcells_bc ks, hb, hk]
  have hf := lf_byt bs
  have hg := lf_byt ks
  generalize lf bs = f at hf ⊢
  generalize lf ks = k at hg ⊢
  have hh : ∀ (h : Nat → Nat) (hh : Byt h) (w : World), (Op.equalIn 10000 22 (.agg (bc 16 h).toArray) (.agg (bc 16 h).toArray)).run Tryd.prog w = .ok true w := fun h hh w => by rw [eq_bc w _ 16 Tryd.underlying22 h h hh hh, eqb_refl]
  exact turnrounds_core (bc 16 f) (bc 16 k) (bc 16 (rnd f k)) (bc 16 (lst f k)) (bc 256 sbox ++ bc 256 isb) (bc 16 fun _ => 0) (f 0) (sbox (f 0)) (hf 0) (bc_len _ _) (bc_len _ _) (by rw [List.length_append, bc_len, bc_len])
    (by show _ = true; rw [← bf_all]; exact bc_one _ _) w (bc_get 16 f 0 (by decide)) (by
      show _ = _
      rw [List.getElem?_append_left (by rw [bc_len]; exact hf 0)]; exact bc_get 256 sbox (f 0) (hf 0))
    zero16 (bc 512 fun _ => 0) (bc_len _ _) (fun w => by rw [← zeros_bc]; exact zero_box w)
    (fun w' hb => tables_any w' (hl.later hb)) (fun w' hb => awake_any w' (hl.later hb)) (fun w => rmake_any w) (hh _ (rnd_byt hg)) (hh _ (lst_byt hf hg)) (hh _ zero_byt)
    (fun g w ht => round_any g f k hf hg w ht) (fun g w ht => last_any g f k hf hg w ht) (fun w => rround_any f k hf hg w) (fun w => rlast_any f k hf hg w) (fun w => round_nil _ _ w) (fun w => last_nil _ _ w) (fun g w ht => box_any g (f 0) (hf 0) w ht) (fun w => box_nil _ w)
set_option linter.unusedVariables false in
set_option maxRecDepth 100000 in
theorem turnRounds_lifted (os : Os) (started : os.Started) (H : Type) (enc : TypeId × Value → H) :
    ReturnsInHanded {} Tryd.checked os 3 .any (fun w args => (Rows.turnRoundsSpec.pre enc Tryd.prog Tryd.f3 [] false w args ∧ laidMetH Tryd.prog lay2 w) ∧ sizedMet enc Tryd.prog Tryd.f3 (OpenSpec.ofChange Rows.turnRoundsSpec) false w args)
      (Rows.turnRoundsSpec.post enc Tryd.prog Tryd.f3 false true false false) := by
  refine returnsInHanded_of_change_and (C := Tryd.checked) (X := fun w _ => laidMetH Tryd.prog lay2 w) (fun _ _ _ hh h => h.of_heap hh) own started (by kernel_rfl) Tryd.func3
    (ChangeSpec.witness_shaped (enc := enc) (C := Tryd.checked) (os := os) (X := fun w _ => laidMetH Tryd.prog lay2 w) false (World.doorLaid Tryd.prog 400 os) #[.agg #[.int .u8 0, .int .u8 0, .int .u8 0, .int .u8 0, .int .u8 0, .int .u8 0, .int .u8 0, .int .u8 0, .int .u8 0, .int .u8 0, .int .u8 0, .int .u8 0, .int .u8 0, .int .u8 0, .int .u8 0, .int .u8 0], .agg #[.int .u8 0, .int .u8 0, .int .u8 0, .int .u8 0, .int .u8 0, .int .u8 0, .int .u8 0, .int .u8 0, .int .u8 0, .int .u8 0, .int .u8 0, .int .u8 0, .int .u8 0, .int .u8 0, .int .u8 0, .int .u8 0]] 8 rfl (World.shaped_of_RefB (by kernel_rfl) (by kernel_rfl)) (by kernel_rfl) (by kernel_rfl) (by kernel_rfl) (door_met os _)) ?_
  intro W base args ds gs before hval0 hW _ _ hL _
  have hval : ∀ (j : Nat) t v, Tryd.f3.params[j]? = some t → args[j]? = some v → Value.okWide Tryd.prog W .any base t v := hval0
  have hW' := hW
  obtain ⟨p, q, hA0, hV, rfl, hfz, hnd⟩ := hW
  have hA : DataW.TrodAll enc Tryd.prog W 0 (fun _ => true) true Tryd.f3.params.toList args.toList ds p := hA0
  rw [Tryd.params3] at hA hval
  obtain ⟨v0, vs0, d0, ds0, p0, q0, hargs, rfl, rfl, h0, r0⟩ := trodAll_cons hA
  obtain ⟨v1, vs1, d1, ds1, p1, q1, rfl, rfl, rfl, h1, r1⟩ := trodAll_cons r0
  obtain ⟨rfl, rfl, rfl⟩ := trodAll_nil r1
  obtain rfl : args = #[v0, v1] := by cases args; simp_all
  obtain ⟨rfl, rfl⟩ := trodVars_none hV
  have lt0 : ∀ x ∈ p0, x.block < W.heap.size := by obtain ⟨m, hm⟩ := h0; exact DataW.trod_lt m _ _ _ hm
  have lt1 : ∀ x ∈ p1, x.block < W.heap.size := by obtain ⟨m, hm⟩ := h1; exact DataW.trod_lt m _ _ _ hm
  obtain ⟨bs0, hl0, rfl⟩ := arr16_of_trod (hval 0 22 v0 rfl rfl) h0
  obtain ⟨bs1, hl1, rfl⟩ := arr16_of_trod (hval 1 22 v1 rfl rfl) h1
  clear hA0 hval0
  refine (turnrounds_walk W (laid_of hL) bs0 hl0 bs1 hl1).mono fun e W' ⟨he, bel⟩ => ?_
  subst he
  exact ⟨_, rfl, _, _, _, [], _, [], hW', trodAll_mk1 (shut_bool Tryd.underlying4 _), (trodAll_cons_mk (Below.trod laidOut (by kernel_rfl) (of_decide_eq_true (by kernel_rfl)) h0 bel lt0) (trodAll_cons_mk (Below.trod laidOut (by kernel_rfl) (of_decide_eq_true (by kernel_rfl)) h1 bel lt1) trodAll_mk0)), rfl, bel.frame _, fun h => by cases h⟩
theorem turnRounds_holds : Rows.TurnRoundsSaid :=
  OpenClaim.holds_of_wide 3 Tryd.f3 rfl rfl rfl rfl rfl rfl rfl ⟨rfl, rfl, rfl, rfl, rfl⟩ rfl rfl rfl rfl rfl (by kernel_rfl) Tryd.func3 (by kernel_rfl)
    (of_decide_eq_true (by kernel_rfl)) (by unfold Func.isWrapper; first | (rw [if_pos (by decide +kernel)]; kernel_rfl) | (rw [if_neg (by decide +kernel)]; exact ⟨rfl, rfl⟩))
    (fun os started H enc _ => turnRounds_lifted os started H enc)
theorem turnRounds_card : Rows.TurnRoundsCardSaid :=
  Claim7.holds_tied_plain_at .later [] [.data, .data] true _ false
    turnRounds_holds (fun _ h => by cases h) (by kernel_rfl) (fun _ h => by cases h) turnRounds_row_tie rfl ⟨rfl, rfl⟩ (by kernel_rfl) rfl
    (fun f fn hf hfn => by
      obtain rfl : f = 3 := Option.some.inj ((show Tryd.prog.funcNamed "wringer/wringerlaw03.TurnRounds" = some 3 by kernel_rfl).symm.trans hf) |>.symm
      obtain rfl : fn = Tryd.f3 := (Option.some.inj (Tryd.func3.symm.trans hfn)).symm
      exact ⟨by kernel_rfl, fun j t ht => by
        rw [Tryd.params3] at ht
        have hm : t ∈ [22, 22] := by simpa using Array.mem_of_getElem? ht
        have hall : ([22, 22].all fun u => !Tryd.prog.wantsStandIn u) = true := by kernel_rfl
        exact (show Tryd.prog.wantsStandIn t = false by simpa using List.all_eq_true.1 hall t hm)⟩)
    (by kernel_rfl)
#print axioms turnRounds_card

end Go.Proofs.YtejhnpgolpjleaaDoor
