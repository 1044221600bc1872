/- Proved here: for every block b and all keys TurnKeys returns true and leaves its arguments as they were (another key differs from the first just as the blocks behind the round do), where the two tables of coefficients lie as the program's text lays them; no other condition. -/
import Derived.Test.YtejhnpgolpjleaaDoorUndone
import Derived.Test.YtejhnpgolpjleaaDoorQuad
namespace Go.Proofs.YtejhnpgolpjleaaDoor
open Go.ChangeShapes Go.WideShapes Go.ChangeAt Go.RowKit

theorem keptk {W0 W W' : World} {p q r : Nat} {X Y O : List Value} (h : Below W0.heap.size W0 W ∧ W.rangeAt p 0 X ∧ W.rangeAt q 0 Y ∧ W.rangeAt r 0 O) (hb : Below W.heap.size W W') : Below W0.heap.size W0 W' ∧ W'.rangeAt p 0 X ∧ W'.rangeAt q 0 Y ∧ W'.rangeAt r 0 O :=
  ⟨below_two h.1 hb, range_later h.2.1 hb, range_later h.2.2.1 hb, range_later h.2.2.2 hb⟩
theorem range_setRow' {w : World} {b o g : Nat} {X : List Value} (h : w.rangeAt b o X) (hne : b ≠ g) (cs : Array Value) : (w.setRow g cs).rangeAt b o X := fun j v hj => by
  have := h j v hj
  unfold World.cell? at this ⊢
  rw [setRow_other w g b cs hne]
  exact this
theorem keptks {W0 W : World} {p q r : Nat} {X Y O : List Value} (h : Below W0.heap.size W0 W ∧ W.rangeAt p 0 X ∧ W.rangeAt q 0 Y ∧ W.rangeAt r 0 O) (g : Nat) (hg : W0.heap.size ≤ g) (V : Array Value) (hp : p < W0.heap.size) (hq : q < W0.heap.size) (hr : r < W0.heap.size) :
    Below W0.heap.size W0 (W.setRow g V) ∧ (W.setRow g V).rangeAt p 0 X ∧ (W.setRow g V).rangeAt q 0 Y ∧ (W.setRow g V).rangeAt r 0 O :=
  ⟨below_setRow h.1 hg _, range_setRow' h.2.1 (by omega) _, range_setRow' h.2.2.1 (by omega) _, range_setRow' h.2.2.2 (by omega) _⟩
set_option linter.unusedSimpArgs false in
set_option maxRecDepth 100000 in
set_option maxHeartbeats 16000000 in
theorem keys_core (X Y O A0 A1 A2 A3 Z : List Value) (y o x0 x1 x2 x3 : Nat → Nat) (hX : X.length = 16) (hY : Y.length = 16) (hO : O.length = 16) (w : World)
    (sZ : Z.toArray.size = 16) (sA0 : A0.toArray.size = 16) (sA1 : A1.toArray.size = 16) (sA2 : A2.toArray.size = 16) (sA3 : A3.toArray.size = 16)
    (oA0 : Hid (A0.toArray.all (·.oneCell') = true)) (oA1 : Hid (A1.toArray.all (·.oneCell') = true)) (oA2 : Hid (A2.toArray.all (·.oneCell') = true)) (oA3 : Hid (A3.toArray.all (·.oneCell') = true))
    (hz : ∀ w, (zeroValue 22).run Tryd.prog w = .ok (.agg Z.toArray) w)
    (gY : Hid (∀ i, i < 16 → Y[i]? = some (.int .u8 (y i : Nat)))) (gO : Hid (∀ i, i < 16 → O[i]? = some (.int .u8 (o i : Nat))))
    (g0 : Hid (∀ i, i < 16 → A0[i]? = some (.int .u8 (x0 i : Nat)))) (g1 : Hid (∀ i, i < 16 → A1[i]? = some (.int .u8 (x1 i : Nat)))) (g2 : Hid (∀ i, i < 16 → A2[i]? = some (.int .u8 (x2 i : Nat)))) (g3 : Hid (∀ i, i < 16 → A3[i]? = some (.int .u8 (x3 i : Nat))))
    (hx : Hid (∀ i, i < 16 → bits .xor .u8 (x0 i : Nat) (x1 i : Nat) = bits .xor .u8 (y i : Nat) (o i : Nat) ∧ bits .xor .u8 (x2 i : Nat) (x3 i : Nat) = bits .xor .u8 (y i : Nat) (o i : Nat)))
    (cT : Hid (∀ w', Below w.heap.size w w' → Calls Tryd.prog 11 #[] w' fun e w'' => (∃ g, e = .returned (.pointer (some ⟨g, 0, none⟩)) ∧ IsTab w'' g) ∧ Below w'.heap.size w' w''))
    (cA : Hid (∀ w', Below w.heap.size w w' → Calls Tryd.prog 18 #[] w' fun e w'' => e = .returned (.bool true) ∧ Below w'.heap.size w' w''))
    (d0 : Hid (∀ g w', IsTab w' g → Calls Tryd.prog 13 #[.pointer (some ⟨g, 0, none⟩), .agg X.toArray, .agg Y.toArray] w' fun e w'' => e = .returned (.agg A0.toArray) ∧ Below w'.heap.size w' w''))
    (d1 : Hid (∀ g w', IsTab w' g → Calls Tryd.prog 13 #[.pointer (some ⟨g, 0, none⟩), .agg X.toArray, .agg O.toArray] w' fun e w'' => e = .returned (.agg A1.toArray) ∧ Below w'.heap.size w' w''))
    (d2 : Hid (∀ g w', IsTab w' g → Calls Tryd.prog 14 #[.pointer (some ⟨g, 0, none⟩), .agg X.toArray, .agg Y.toArray] w' fun e w'' => e = .returned (.agg A2.toArray) ∧ Below w'.heap.size w' w''))
    (d3 : Hid (∀ g w', IsTab w' g → Calls Tryd.prog 14 #[.pointer (some ⟨g, 0, none⟩), .agg X.toArray, .agg O.toArray] w' fun e w'' => e = .returned (.agg A3.toArray) ∧ Below w'.heap.size w' w'')) :
    Calls Tryd.prog 7 #[.agg X.toArray, .agg Y.toArray, .agg O.toArray] w fun e w' => e = .returned (.bool true) ∧ Below w.heap.size w w' := by
  have iX : (Tryd.prog.info? 22).map (·.size) = some X.length := by rw [hX]; rfl
  have iY : (Tryd.prog.info? 22).map (·.size) = some Y.length := by rw [hY]; rfl
  have iO : (Tryd.prog.info? 22).map (·.size) = some O.length := by rw [hO]; rfl
  have s' : ∀ (w : World) (o : Obj), (w.alloc o).heap.size = w.heap.size + 1 := fun w o => by simp
  have b0 : Below w.heap.size w (((w.alloc (.cells X.toArray 22)).alloc (.cells Y.toArray 22)).alloc (.cells O.toArray 22)) := below_alloc (below_alloc (below_alloc (Below.refl _ _) _) _) _
  have l : ∀ {w : World} {g : Nat} {x : Obj} (o : Obj), w.heap[g]? = some x → (w.alloc o).heap[g]? = some x := fun {w g x} o e =>
    (((Below.refl w.heap.size w).alloc (Nat.le_refl _) o).block g (Array.getElem?_eq_some_iff.1 e).1).trans e
  have h0X := hide (l (.cells O.toArray 22) (heap_alloc2_old w (.cells X.toArray 22) (.cells Y.toArray 22)))
  have h0Y := hide (l (.cells O.toArray 22) (heap_alloc2_new w (.cells X.toArray 22) (.cells Y.toArray 22)))
  have h0O : Hid ((((w.alloc (.cells X.toArray 22)).alloc (.cells Y.toArray 22)).alloc (.cells O.toArray 22)).heap[w.heap.size + 1 + 1]? = some (.cells O.toArray 22 (0, 0))) := by
    rw [← s' w (.cells X.toArray 22), ← s' _ (.cells Y.toArray 22)]; exact heap_alloc_new _ _
  have K0 := hide (cT.out _ b0)
  have hsz : w.heap.size + 1 + 1 < (((w.alloc (.cells X.toArray 22)).alloc (.cells Y.toArray 22)).alloc (.cells O.toArray 22)).heap.size := (Array.getElem?_eq_some_iff.1 h0O.out).1
  have HSZ := hide hsz
  clear s' l hsz
  go_enter Tryd.func7, Tryd.ntmps7
  go_wp2_with fail
  refine (K0.out).mono ?_
  rintro e W0 ⟨⟨g, rfl, ht⟩, b1⟩
  have HT := hide ht
  have BW := hide (below_two b0 b1)
  have rX : W0.rangeAt w.heap.size 0 X := fun j v hj => by
    rw [Nat.zero_add, cell_of_row _ w.heap.size _ _ _ _ ((b1.block _ (Array.getElem?_eq_some_iff.1 h0X.out).1).trans h0X.out)]; simpa using hj
  have rY : W0.rangeAt (w.heap.size + 1) 0 Y := fun j v hj => by
    rw [Nat.zero_add, cell_of_row _ (w.heap.size + 1) _ _ _ _ ((b1.block _ (Array.getElem?_eq_some_iff.1 h0Y.out).1).trans h0Y.out)]; simpa using hj
  have rO : W0.rangeAt (w.heap.size + 1 + 1) 0 O := fun j v hj => by
    rw [Nat.zero_add, cell_of_row _ (w.heap.size + 1 + 1) _ _ _ _ ((b1.block _ (Array.getElem?_eq_some_iff.1 h0O.out).1).trans h0O.out)]; simpa using hj
  have hlo : w.heap.size + 1 + 1 < W0.heap.size := Nat.lt_of_lt_of_le HSZ.out b1.size
  have LX : w.heap.size < W0.heap.size := by omega
  have LY : w.heap.size + 1 < W0.heap.size := by omega
  have LO := hlo
  have c0 := hide (fun w' (hb : Below W0.heap.size W0 w') => d0.out g w' (HT.out.later hb))
  have c1 := hide (fun w' (hb : Below W0.heap.size W0 w') => d1.out g w' (HT.out.later hb))
  have c2 := hide (fun w' (hb : Below W0.heap.size W0 w') => d2.out g w' (HT.out.later hb))
  have c3 := hide (fun w' (hb : Below W0.heap.size W0 w') => d3.out g w' (HT.out.later hb))
  clear hlo b0 b1 ht K0 h0X h0Y h0O HSZ
  go_wp2_with fail
  refine wp_region_held_drew (S := fun w' => Below W0.heap.size W0 w' ∧ w'.rangeAt w.heap.size 0 X ∧ w'.rangeAt (w.heap.size + 1) 0 Y ∧ w'.rangeAt (w.heap.size + 1 + 1) 0 O) (by kernel_rfl) ?_ (fun hHeld => ?_)
  · exact ⟨(Below.refl _ _).drew, rX, rY, rO⟩
  refine wpAnyH_take (i := 0) (v := ?_) rfl (by kernel_rfl) (by kernel_rfl) (by kernel_rfl) (fun _ _ _ h => h) (Or.inl ⟨by rfl, ?_⟩) (by assumption) ?_
  rotate_left
  · (intro w hSw; (try dsimp only at hSw); simp only [List.getElem_toArray, List.getElem_cons_zero]; go_simp; try with_reducible rfl)
  simp only [Act.put, List.getElem_toArray, List.getElem_cons_zero, List.setIfInBounds_toArray, List.set_cons_zero, List.set_cons_succ]
  refine wpAnyH_take (i := 1) rfl (by kernel_rfl) (by kernel_rfl) (by kernel_rfl) (fun _ _ _ h => h) (yieldsIf_load_mid (by rfl) _ _ rfl _ _ rfl X _ (fun w hSw => hSw.2.1) Tryd.underlying22 rfl iX) (by assumption) ?_
  simp only [Act.put, List.getElem_toArray, List.getElem_cons_succ, List.getElem_cons_zero, List.setIfInBounds_toArray, List.set_cons_zero, List.set_cons_succ]
  refine wpAnyH_take (i := 2) rfl (by kernel_rfl) (by kernel_rfl) (by kernel_rfl) (fun _ _ _ h => h) (yieldsIf_load_mid (by rfl) _ _ rfl _ _ rfl Y _ (fun w hSw => hSw.2.2.1) Tryd.underlying22 rfl iY) (by assumption) ?_
  simp only [Act.put, List.getElem_toArray, List.getElem_cons_succ, List.getElem_cons_zero, List.setIfInBounds_toArray, List.set_cons_zero, List.set_cons_succ]
  refine wpAnyH_take (i := 4) (v := ?_) rfl (by kernel_rfl) (by kernel_rfl) (by kernel_rfl) (fun _ _ _ h => h) (Or.inl ⟨by rfl, ?_⟩) (by assumption) ?_
  rotate_left
  · (intro w hSw; (try dsimp only at hSw); simp only [List.getElem_toArray, List.getElem_cons_succ, List.getElem_cons_zero]; go_simp; try with_reducible rfl)
  simp only [Act.put, List.getElem_toArray, List.getElem_cons_succ, List.getElem_cons_zero, List.setIfInBounds_toArray, List.set_cons_zero, List.set_cons_succ]
  refine wpAnyH_take (i := 5) rfl (by kernel_rfl) (by kernel_rfl) (by kernel_rfl) (fun _ _ _ h => h) (yieldsIf_load_mid (by rfl) _ _ rfl _ _ rfl X _ (fun w hSw => hSw.2.1) Tryd.underlying22 rfl iX) (by assumption) ?_
  simp only [Act.put, List.getElem_toArray, List.getElem_cons_succ, List.getElem_cons_zero, List.setIfInBounds_toArray, List.set_cons_zero, List.set_cons_succ]
  refine wpAnyH_take (i := 6) rfl (by kernel_rfl) (by kernel_rfl) (by kernel_rfl) (fun _ _ _ h => h) (yieldsIf_load_mid (by rfl) _ _ rfl _ _ rfl O _ (fun w hSw => hSw.2.2.2) Tryd.underlying22 rfl iO) (by assumption) ?_
  simp only [Act.put, List.getElem_toArray, List.getElem_cons_succ, List.getElem_cons_zero, List.setIfInBounds_toArray, List.set_cons_zero, List.set_cons_succ]
  refine wpAnyH_take (i := 8) (v := ?_) rfl (by kernel_rfl) (by kernel_rfl) (by kernel_rfl) (fun _ _ _ h => h) (Or.inl ⟨by rfl, ?_⟩) (by assumption) ?_
  rotate_left
  · (intro w hSw; (try dsimp only at hSw); simp only [List.getElem_toArray, List.getElem_cons_succ, List.getElem_cons_zero]; go_simp; try with_reducible rfl)
  simp only [Act.put, List.getElem_toArray, List.getElem_cons_succ, List.getElem_cons_zero, List.setIfInBounds_toArray, List.set_cons_zero, List.set_cons_succ]
  refine wpAnyH_take (i := 9) rfl (by kernel_rfl) (by kernel_rfl) (by kernel_rfl) (fun _ _ _ h => h) (yieldsIf_load_mid (by rfl) _ _ rfl _ _ rfl X _ (fun w hSw => hSw.2.1) Tryd.underlying22 rfl iX) (by assumption) ?_
  simp only [Act.put, List.getElem_toArray, List.getElem_cons_succ, List.getElem_cons_zero, List.setIfInBounds_toArray, List.set_cons_zero, List.set_cons_succ]
  refine wpAnyH_take (i := 10) rfl (by kernel_rfl) (by kernel_rfl) (by kernel_rfl) (fun _ _ _ h => h) (yieldsIf_load_mid (by rfl) _ _ rfl _ _ rfl Y _ (fun w hSw => hSw.2.2.1) Tryd.underlying22 rfl iY) (by assumption) ?_
  simp only [Act.put, List.getElem_toArray, List.getElem_cons_succ, List.getElem_cons_zero, List.setIfInBounds_toArray, List.set_cons_zero, List.set_cons_succ]
  refine wpAnyH_take (i := 12) (v := ?_) rfl (by kernel_rfl) (by kernel_rfl) (by kernel_rfl) (fun _ _ _ h => h) (Or.inl ⟨by rfl, ?_⟩) (by assumption) ?_
  rotate_left
  · (intro w hSw; (try dsimp only at hSw); simp only [List.getElem_toArray, List.getElem_cons_succ, List.getElem_cons_zero]; go_simp; try with_reducible rfl)
  simp only [Act.put, List.getElem_toArray, List.getElem_cons_succ, List.getElem_cons_zero, List.setIfInBounds_toArray, List.set_cons_zero, List.set_cons_succ]
  refine wpAnyH_take (i := 13) rfl (by kernel_rfl) (by kernel_rfl) (by kernel_rfl) (fun _ _ _ h => h) (yieldsIf_load_mid (by rfl) _ _ rfl _ _ rfl X _ (fun w hSw => hSw.2.1) Tryd.underlying22 rfl iX) (by assumption) ?_
  simp only [Act.put, List.getElem_toArray, List.getElem_cons_succ, List.getElem_cons_zero, List.setIfInBounds_toArray, List.set_cons_zero, List.set_cons_succ]
  refine wpAnyH_take (i := 14) rfl (by kernel_rfl) (by kernel_rfl) (by kernel_rfl) (fun _ _ _ h => h) (yieldsIf_load_mid (by rfl) _ _ rfl _ _ rfl O _ (fun w hSw => hSw.2.2.2) Tryd.underlying22 rfl iO) (by assumption) ?_
  simp only [Act.put, List.getElem_toArray, List.getElem_cons_succ, List.getElem_cons_zero, List.setIfInBounds_toArray, List.set_cons_zero, List.set_cons_succ]
  clear rX rY rO
  refine wpAnyH_inv (k := 4) (fun n L a w' => ∃ b0 b1 b2 b3 m0 m1 m2 m3 : Bool, ∃ v0 v1 v2 v3 r0 r1 r2 r3 : Value, n = left8 b0 b1 b2 b3 m0 m1 m2 m3 ∧ L = #[true, true, true, b0, true, true, true, b1, true, true, true, b2, true, true, true, b3, m0, m1, m2, m3, false, false, false, false] ∧ a = { tmps := #[.agg X.toArray, .agg Y.toArray, .agg O.toArray, .pointer (some ⟨w.heap.size, 0, none⟩), .pointer (some ⟨w.heap.size + 1, 0, none⟩), .pointer (some ⟨w.heap.size + 1 + 1, 0, none⟩), .bool false, .pointer (some ⟨g, 0, none⟩), v0, v1, v2, v3, undef, .pointer (some ⟨g, 0, none⟩), .pointer (some ⟨g, 0, none⟩), .agg X.toArray, .agg Y.toArray, r0, .pointer (some ⟨g, 0, none⟩), .agg X.toArray, .agg O.toArray, r1, .pointer (some ⟨g, 0, none⟩), .agg X.toArray, .agg Y.toArray, r2, .pointer (some ⟨g, 0, none⟩), .agg X.toArray, .agg O.toArray, r3, undef, undef, undef, undef, undef, undef, undef, undef, undef, undef, undef, undef, undef, undef, undef, undef, undef, undef, undef, undef, undef, undef, undef, undef, undef, undef, undef, undef, undef, undef, undef, undef, undef, undef, undef, undef, undef], defers := [] } ∧ Hid (QS W0.heap.size Z (.agg A0.toArray) (.agg A1.toArray) (.agg A2.toArray) (.agg A3.toArray) w' b0 b1 b2 b3 m0 m1 m2 m3 v0 v1 v2 v3 r0 r1 r2 r3)) ?base ?step 8 _ _ _ ?init hHeld
  case init => exact ⟨false, false, false, false, false, false, false, false, _, _, _, _, _, _, _, _, rfl, rfl, rfl, QS.start _ _ _ _ _ _ _ _ _ _ _ _ _ _ _⟩
  case step =>
    rintro n L a w' ⟨b0, b1, b2, b3, m0, m1, m2, m3, v0, v1, v2, v3, r0, r1, r2, r3, hn, rfl, rfl, HQ⟩ hS
    constructor
    · intro h0
      have no : ∀ i, i ∈ Region.ready _ _ _ → False := fun i hi => by rw [h0] at hi; cases hi
      cases b0 with
      | false => exact no 3 (mem_ready.2 ⟨rfl, _, rfl, by intro e he _; simp at he; rcases he with rfl | rfl | rfl <;> rfl⟩)
      | true =>
      cases b1 with
      | false => exact no 7 (mem_ready.2 ⟨rfl, _, rfl, by intro e he _; simp at he; rcases he with rfl | rfl | rfl | rfl <;> rfl⟩)
      | true =>
      cases b2 with
      | false => exact no 11 (mem_ready.2 ⟨rfl, _, rfl, by intro e he _; simp at he; rcases he with rfl | rfl | rfl | rfl <;> rfl⟩)
      | true =>
      cases b3 with
      | false => exact no 15 (mem_ready.2 ⟨rfl, _, rfl, by intro e he _; simp at he; rcases he with rfl | rfl | rfl | rfl <;> rfl⟩)
      | true =>
      cases m0 with
      | false => exact no 16 (mem_ready.2 ⟨rfl, _, rfl, by intro e he _; simp at he⟩)
      | true =>
      cases m1 with
      | false => exact no 17 (mem_ready.2 ⟨rfl, _, rfl, by intro e he _; simp at he⟩)
      | true =>
      cases m2 with
      | false => exact no 18 (mem_ready.2 ⟨rfl, _, rfl, by intro e he _; simp at he⟩)
      | true =>
      cases m3 with
      | false => exact no 19 (mem_ready.2 ⟨rfl, _, rfl, by intro e he _; simp at he⟩)
      | true =>
      simp [left8] at hn
    · intro i hi
      obtain ⟨h1, o, ho, hd⟩ := mem_ready.1 hi
      have hlt : i < 24 := (Array.getElem?_eq_some_iff.1 ho).1
      obtain rfl | rfl | rfl | rfl | rfl | rfl | rfl | rfl | rfl | rfl | rfl | rfl | rfl | rfl | rfl | rfl | rfl | rfl | rfl | rfl | rfl | rfl | rfl | rfl : i = 0 ∨ i = 1 ∨ i = 2 ∨ i = 3 ∨ i = 4 ∨ i = 5 ∨ i = 6 ∨ i = 7 ∨ i = 8 ∨ i = 9 ∨ i = 10 ∨ i = 11 ∨ i = 12 ∨ i = 13 ∨ i = 14 ∨ i = 15 ∨ i = 16 ∨ i = 17 ∨ i = 18 ∨ i = 19 ∨ i = 20 ∨ i = 21 ∨ i = 22 ∨ i = 23 := by omega
      · exact absurd (show true = false from h1) (by decide)
      · exact absurd (show true = false from h1) (by decide)
      · exact absurd (show true = false from h1) (by decide)
      · obtain rfl : b0 = false := h1
        refine wpOp_step rfl (fun K hK => ?_)
        rw [if_pos (by rfl)]
        go_simp
        refine (c0.out _ hS.1).mono ?_
        rintro e x ⟨rfl, bb⟩
        go_wp2_with fail
        exact ⟨keptk hS bb, true, b1, b2, b3, m0, m1, m2, m3, _, _, _, _, _, _, _, _, by simp [left8] at hn ⊢; omega, rfl, rfl, QS.call0 HQ.out bb⟩
      · exact absurd (show true = false from h1) (by decide)
      · exact absurd (show true = false from h1) (by decide)
      · exact absurd (show true = false from h1) (by decide)
      · obtain rfl : b1 = false := h1
        obtain rfl := (Option.some.inj (ho.symm.trans rfl) : o = _)
        have hp : b0 = true := hd { on := 3, ground := .chain } (by simp) rfl
        refine wpOp_step rfl (fun K hK => ?_)
        rw [if_pos (by rfl)]
        go_simp
        refine (c1.out _ hS.1).mono ?_
        rintro e x ⟨rfl, bb⟩
        go_wp2_with fail
        exact ⟨keptk hS bb, b0, true, b2, b3, m0, m1, m2, m3, _, _, _, _, _, _, _, _, by simp [left8] at hn ⊢; omega, rfl, rfl, QS.call1 HQ.out bb hp⟩
      · exact absurd (show true = false from h1) (by decide)
      · exact absurd (show true = false from h1) (by decide)
      · exact absurd (show true = false from h1) (by decide)
      · obtain rfl : b2 = false := h1
        obtain rfl := (Option.some.inj (ho.symm.trans rfl) : o = _)
        have hp : b1 = true := hd { on := 7, ground := .chain } (by simp) rfl
        refine wpOp_step rfl (fun K hK => ?_)
        rw [if_pos (by rfl)]
        go_simp
        refine (c2.out _ hS.1).mono ?_
        rintro e x ⟨rfl, bb⟩
        go_wp2_with fail
        exact ⟨keptk hS bb, b0, b1, true, b3, m0, m1, m2, m3, _, _, _, _, _, _, _, _, by simp [left8] at hn ⊢; omega, rfl, rfl, QS.call2 HQ.out bb hp⟩
      · exact absurd (show true = false from h1) (by decide)
      · exact absurd (show true = false from h1) (by decide)
      · exact absurd (show true = false from h1) (by decide)
      · obtain rfl : b3 = false := h1
        obtain rfl := (Option.some.inj (ho.symm.trans rfl) : o = _)
        have hp : b2 = true := hd { on := 11, ground := .chain } (by simp) rfl
        refine wpOp_step rfl (fun K hK => ?_)
        rw [if_pos (by rfl)]
        go_simp
        refine (c3.out _ hS.1).mono ?_
        rintro e x ⟨rfl, bb⟩
        go_wp2_with fail
        exact ⟨keptk hS bb, b0, b1, b2, true, m0, m1, m2, m3, _, _, _, _, _, _, _, _, by simp [left8] at hn ⊢; omega, rfl, rfl, QS.call3 HQ.out bb hp⟩
      · obtain rfl : m0 = false := h1
        refine wpOp_step rfl (fun K hK => ?_)
        rw [if_pos (by rfl)]
        go_simp
        have bb := below_alloc (Below.refl w'.heap.size w') (.cells Z.toArray 22)
        refine hK _ _ ⟨keptk hS bb, b0, b1, b2, b3, true, m1, m2, m3, _, _, _, _, _, _, _, _, by simp [left8] at hn ⊢; omega, rfl, rfl, QS.alloc0 HQ.out hS.1.size⟩
      · obtain rfl : m1 = false := h1
        refine wpOp_step rfl (fun K hK => ?_)
        rw [if_pos (by rfl)]
        go_simp
        have bb := below_alloc (Below.refl w'.heap.size w') (.cells Z.toArray 22)
        refine hK _ _ ⟨keptk hS bb, b0, b1, b2, b3, m0, true, m2, m3, _, _, _, _, _, _, _, _, by simp [left8] at hn ⊢; omega, rfl, rfl, QS.alloc1 HQ.out hS.1.size⟩
      · obtain rfl : m2 = false := h1
        refine wpOp_step rfl (fun K hK => ?_)
        rw [if_pos (by rfl)]
        go_simp
        have bb := below_alloc (Below.refl w'.heap.size w') (.cells Z.toArray 22)
        refine hK _ _ ⟨keptk hS bb, b0, b1, b2, b3, m0, m1, true, m3, _, _, _, _, _, _, _, _, by simp [left8] at hn ⊢; omega, rfl, rfl, QS.alloc2 HQ.out hS.1.size⟩
      · obtain rfl : m3 = false := h1
        refine wpOp_step rfl (fun K hK => ?_)
        rw [if_pos (by rfl)]
        go_simp
        have bb := below_alloc (Below.refl w'.heap.size w') (.cells Z.toArray 22)
        refine hK _ _ ⟨keptk hS bb, b0, b1, b2, b3, m0, m1, m2, true, _, _, _, _, _, _, _, _, by simp [left8] at hn ⊢; omega, rfl, rfl, QS.alloc3 HQ.out hS.1.size⟩
      · obtain rfl := (Option.some.inj (ho.symm.trans rfl) : o = _)
        exfalso
        have hb3 : b3 = true := hd { on := 15, ground := .chain } (by simp) rfl
        have hm0 : m0 = true := hd { on := 16, ground := .phase } (by simp) rfl
        have hm1 : m1 = true := hd { on := 17, ground := .phase } (by simp) rfl
        have hm2 : m2 = true := hd { on := 18, ground := .phase } (by simp) rfl
        have hm3 : m3 = true := hd { on := 19, ground := .phase } (by simp) rfl
        have hb2 := HQ.out.1.2.2 hb3
        have hb1 := HQ.out.1.2.1 hb2
        have hb0 := HQ.out.1.1 hb1
        simp [left8, hb0, hb1, hb2, hb3, hm0, hm1, hm2, hm3] at hn
      · obtain rfl := (Option.some.inj (ho.symm.trans rfl) : o = _)
        exfalso
        exact absurd (show false = true from hd { on := 20, ground := .chain } (by simp) rfl) (by decide)
      · obtain rfl := (Option.some.inj (ho.symm.trans rfl) : o = _)
        exfalso
        exact absurd (show false = true from hd { on := 21, ground := .chain } (by simp) rfl) (by decide)
      · obtain rfl := (Option.some.inj (ho.symm.trans rfl) : o = _)
        exfalso
        exact absurd (show false = true from hd { on := 22, ground := .chain } (by simp) rfl) (by decide)
  case base =>
    rintro L a w' ⟨b0, b1, b2, b3, m0, m1, m2, m3, v0, v1, v2, v3, r0, r1, r2, r3, hn, rfl, rfl, HQ⟩ hHeld
    obtain ⟨rfl, rfl, rfl, rfl, rfl, rfl, rfl, rfl⟩ := left8_zero hn
    obtain ⟨p0, p1, p2, p3, rfl, rfl, rfl, rfl, rfl, rfl, rfl, rfl, ⟨l0, l1, l2, l3⟩, ⟨n01, n02, n03, n12, n13, n23⟩, g0, g1, g2, g3⟩ := HQ.out.all
    obtain ⟨h1, h2, h3, q0, q1, q2, q3⟩ := four_rows w' p0 p1 p2 p3 Z.toArray A0.toArray A1.toArray A2.toArray A3.toArray 22 n01 n02 n03 n12 n13 n23 g0 g1 g2 g3
    refine wpAnyH_ready (rs := [20]) (by kernel_rfl) (by simp) ?_
    refine AllReadyH.cons rfl (fun K hK => ?_) AllReadyH.nil
    rw [if_pos (by rfl)]
    refine wp_store_row 22 _ _ rfl p0 A0.toArray rfl rfl 22 Z.toArray g0 (by rw [sA0]; rfl) (by rw [sZ, sA0]) oA0.out (hK.out _ _ (keptks hHeld p0 l0 A0.toArray LX LY LO) (fun hHeld => ?_))
    clear hK K
    try simp only [Act.put, List.setIfInBounds_toArray, List.set_cons_zero, List.set_cons_succ]
    refine wpAnyH_ready (rs := [21]) (by kernel_rfl) (by simp) ?_
    refine AllReadyH.cons rfl (fun K hK => ?_) AllReadyH.nil
    rw [if_pos (by rfl)]
    refine wp_store_row 22 _ _ rfl p1 A1.toArray rfl rfl 22 Z.toArray h1 (by rw [sA1]; rfl) (by rw [sZ, sA1]) oA1.out (hK.out _ _ (keptks hHeld p1 l1 A1.toArray LX LY LO) (fun hHeld => ?_))
    clear hK K
    try simp only [Act.put, List.setIfInBounds_toArray, List.set_cons_zero, List.set_cons_succ]
    refine wpAnyH_ready (rs := [22]) (by kernel_rfl) (by simp) ?_
    refine AllReadyH.cons rfl (fun K hK => ?_) AllReadyH.nil
    rw [if_pos (by rfl)]
    refine wp_store_row 22 _ _ rfl p2 A2.toArray rfl rfl 22 Z.toArray h2 (by rw [sA2]; rfl) (by rw [sZ, sA2]) oA2.out (hK.out _ _ (keptks hHeld p2 l2 A2.toArray LX LY LO) (fun hHeld => ?_))
    clear hK K
    try simp only [Act.put, List.setIfInBounds_toArray, List.set_cons_zero, List.set_cons_succ]
    refine wpAnyH_ready (rs := [23]) (by kernel_rfl) (by simp) ?_
    refine AllReadyH.cons rfl (fun K hK => ?_) AllReadyH.nil
    rw [if_pos (by rfl)]
    refine wp_store_row 22 _ _ rfl p3 A3.toArray rfl rfl 22 Z.toArray h3 (by rw [sA3]; rfl) (by rw [sZ, sA3]) oA3.out (hK.out _ _ (keptks hHeld p3 l3 A3.toArray LX LY LO) (fun hHeld => ?_))
    clear hK K
    try simp only [Act.put, List.setIfInBounds_toArray, List.set_cons_zero, List.set_cons_succ]
    refine wpAnyH_done (by kernel_rfl) ?_ _
    have Q0 := hide q0
    have Q1 := hide q1
    have Q2 := hide q2
    have Q3 := hide q3
    obtain ⟨W4, hW4⟩ : ∃ W4, W4 = (((w'.setRow p0 A0.toArray).setRow p1 A1.toArray).setRow p2 A2.toArray).setRow p3 A3.toArray := ⟨_, rfl⟩
    rw [← hW4] at Q0 Q1 Q2 Q3 hHeld ⊢
    have HH := hide hHeld
    clear q0 q1 q2 q3 h1 h2 h3 g0 g1 g2 g3 HQ hn hW4 hHeld l0 l1 l2 l3 n01 n02 n03 n12 n13 n23
    clear hz
    go_wp2_with fail
    go_loopw [12] (fun j wr => ∃ i : Nat, i ≤ 16 ∧ j = .int .i64 i ∧ Hid (Below W4.heap.size W4 wr)) (fun i _ => 16 - (intOf i).toNat)
    case atStart => exact ⟨0, by omega, rfl, Below.refl _ _⟩
    case round =>
      obtain ⟨i, hi, rfl, HR⟩ := hrel
      by_cases hlt : i < 16
      · have cell : ∀ {p : Nat} {C : List Value} {z : Nat → Nat}, W4.heap[p]? = some (.cells C.toArray 22 (0, 0)) → (∀ i, i < 16 → C[i]? = some (.int .u8 (z i : Nat))) → wr.cell? ⟨p, i, none⟩ = some (.int .u8 (z i : Nat)) := fun {p C z} h h' => by
          refine Go.Proofs.YtejhnpgolpjleaaDoor.later HR.out ?_
          rw [cell_of_row W4 p _ _ _ _ h]; simpa using h' i hlt
        have e0 := cell Q0.out g0.out
        have e1 := cell Q1.out g1.out
        have e2 := cell Q2.out g2.out
        have e3 := cell Q3.out g3.out
        have e4 : wr.cell? ⟨w.heap.size + 1, i, none⟩ = some (.int .u8 (y i : Nat)) := Go.Proofs.YtejhnpgolpjleaaDoor.later HR.out (by have := HH.out.2.2.1 i _ (gY.out i hlt); rwa [Nat.zero_add] at this)
        have e5 : wr.cell? ⟨w.heap.size + 1 + 1, i, none⟩ = some (.int .u8 (o i : Nat)) := Go.Proofs.YtejhnpgolpjleaaDoor.later HR.out (by have := HH.out.2.2.2 i _ (gO.out i hlt); rwa [Nat.zero_add] at this)
        obtain ⟨x1', x2'⟩ := hx.out i hlt
        generalize x0 i = a0 at e0 x1'
        generalize x1 i = a1 at e1 x1'
        generalize x2 i = a2 at e2 x2'
        generalize x3 i = a3 at e3 x2'
        generalize y i = a4 at e4 x1' x2'
        generalize o i = a5 at e5 x1' x2'
        have d1 : (bits .xor .u8 (a0 : Int) (a1 : Int) != bits .xor .u8 (a4 : Int) (a5 : Int)) = false := by rw [x1']; simp
        have d2 : (bits .xor .u8 (a2 : Int) (a3 : Int) != bits .xor .u8 (a4 : Int) (a5 : Int)) = false := by rw [x2']; simp
        have i1 : (i : Int) < 16 := by omega
        clear x1' x2' cell
        go_wp2_with fail
        go_quiet (fail)
        go_wp2
        go_roundw
        case rel => exact ⟨i + 1, by omega, by go_num, below_drewN HR.out _⟩
        case measure => simp [intOf]; omega
      · obtain rfl : i = 16 := by omega
        go_wp2_with fail
        refine (cA.out _ (below_two (below_two BW.out HH.out.1) HR.out)).mono ?_
        rintro e x9 ⟨rfl, b9⟩
        go_wp2
        go_ret
        exact ⟨rfl, below_two (below_two (below_two BW.out HH.out.1) HR.out) b9⟩
theorem keys_walk (w : World) (hl : Laid w) (bs : List UInt8) (hb : bs.length = 16) (ks : List UInt8) (hk : ks.length = 16) (os : List UInt8) (ho : os.length = 16) :
    Calls Tryd.prog 7 #[.agg (bcells bs).toArray, .agg (bcells ks).toArray, .agg (bcells os).toArray] w fun e w' => e = .returned (.bool true) ∧ Below w.heap.size w w' := by
  rw [bcells_bc bs, bcells_bc ks, bcells_bc os, hb, hk, ho]
  have hf := lf_byt bs
  have hg := lf_byt ks
  have hh := lf_byt os
  generalize lf bs = f at hf ⊢
  generalize lf ks = k at hg ⊢
  generalize lf os = o at hh ⊢
  have z : ∀ f, (bc 16 f).toArray.size = 16 := fun f => by rw [List.size_toArray, bc_len]
  have swap : ∀ a b c : Nat, (a ^^^ b) ^^^ (a ^^^ c) = b ^^^ c := fun a b c => by
    rw [Nat.xor_comm a b, Nat.xor_assoc, ← Nat.xor_assoc a a c, Nat.xor_self, Nat.zero_xor]
  refine keys_core (bc 16 f) (bc 16 k) (bc 16 o) (bc 16 (rnd f k)) (bc 16 (rnd f o)) (bc 16 (lst f k)) (bc 16 (lst f o)) (bc 16 fun _ => 0) k o (rnd f k) (rnd f o) (lst f k) (lst f o) (bc_len _ _) (bc_len _ _) (bc_len _ _) w (z _) (z _) (z _) (z _) (z _) (bc_one _ _) (bc_one _ _) (bc_one _ _) (bc_one _ _) zero16
    (fun i hi => bc_get 16 _ i hi) (fun i hi => bc_get 16 _ i hi) (fun i hi => bc_get 16 _ i hi) (fun i hi => bc_get 16 _ i hi) (fun i hi => bc_get 16 _ i hi) (fun i hi => bc_get 16 _ i hi) (fun i _ => ⟨?_, ?_⟩)
    (fun w' hb => tables_any w' (hl.later hb)) (fun w' hb => awake_any w' (hl.later hb)) (fun g w ht => round_any g f k hf hg w ht) (fun g w ht => round_any g f o hf hh w ht) (fun g w ht => last_any g f k hf hg w ht) (fun g w ht => last_any g f o hf hh w ht)
  · rw [xor_u8 _ _ (rnd_byt hg i) (rnd_byt hh i), xor_u8 _ _ (hg i) (hh i)]
    unfold rnd; rw [swap]
  · rw [xor_u8 _ _ (lst_byt hf hg i) (lst_byt hf hh i), xor_u8 _ _ (hg i) (hh i)]
    unfold lst; rw [swap]
set_option linter.unusedVariables false in
set_option maxRecDepth 100000 in
theorem turnKeys_lifted (os : Os) (started : os.Started) (H : Type) (enc : TypeId × Value → H) :
    ReturnsInHanded {} Tryd.checked os 7 .any (fun w args => (Rows.turnKeysSpec.pre enc Tryd.prog Tryd.f7 [] false w args ∧ laidMetH Tryd.prog lay2 w) ∧ sizedMet enc Tryd.prog Tryd.f7 (OpenSpec.ofChange Rows.turnKeysSpec) false w args)
      (Rows.turnKeysSpec.post enc Tryd.prog Tryd.f7 false true false false) := by
  refine returnsInHanded_of_change_and (C := Tryd.checked) (X := fun w _ => laidMetH Tryd.prog lay2 w) (fun _ _ _ hh h => h.of_heap hh) own started (by kernel_rfl) Tryd.func7
    (ChangeSpec.witness_shaped (enc := enc) (C := Tryd.checked) (os := os) (X := fun w _ => laidMetH Tryd.prog lay2 w) false (World.doorLaid Tryd.prog 400 os) #[.agg #[.int .u8 0, .int .u8 0, .int .u8 0, .int .u8 0, .int .u8 0, .int .u8 0, .int .u8 0, .int .u8 0, .int .u8 0, .int .u8 0, .int .u8 0, .int .u8 0, .int .u8 0, .int .u8 0, .int .u8 0, .int .u8 0], .agg #[.int .u8 0, .int .u8 0, .int .u8 0, .int .u8 0, .int .u8 0, .int .u8 0, .int .u8 0, .int .u8 0, .int .u8 0, .int .u8 0, .int .u8 0, .int .u8 0, .int .u8 0, .int .u8 0, .int .u8 0, .int .u8 0], .agg #[.int .u8 0, .int .u8 0, .int .u8 0, .int .u8 0, .int .u8 0, .int .u8 0, .int .u8 0, .int .u8 0, .int .u8 0, .int .u8 0, .int .u8 0, .int .u8 0, .int .u8 0, .int .u8 0, .int .u8 0, .int .u8 0]] 8 rfl (World.shaped_of_RefB (by kernel_rfl) (by kernel_rfl)) (by kernel_rfl) (by kernel_rfl) (by kernel_rfl) (door_met os _)) ?_
  intro W base args ds gs before hval0 hW _ _ hL _
  have hval : ∀ (j : Nat) t v, Tryd.f7.params[j]? = some t → args[j]? = some v → Value.okWide Tryd.prog W .any base t v := hval0
  have hW' := hW
  obtain ⟨p, q, hA0, hV, rfl, hfz, hnd⟩ := hW
  have hA : DataW.TrodAll enc Tryd.prog W 0 (fun _ => true) true Tryd.f7.params.toList args.toList ds p := hA0
  rw [Tryd.params7] at hA hval
  obtain ⟨v0, vs0, d0, ds0, p0, q0, hargs, rfl, rfl, h0, r0⟩ := trodAll_cons hA
  obtain ⟨v1, vs1, d1, ds1, p1, q1, rfl, rfl, rfl, h1, r1⟩ := trodAll_cons r0
  obtain ⟨v2, vs2, d2, ds2, p2, q2, rfl, rfl, rfl, h2, r2⟩ := trodAll_cons r1
  obtain ⟨rfl, rfl, rfl⟩ := trodAll_nil r2
  obtain rfl : args = #[v0, v1, v2] := by cases args; simp_all
  obtain ⟨rfl, rfl⟩ := trodVars_none hV
  have lt0 : ∀ x ∈ p0, x.block < W.heap.size := by obtain ⟨m, hm⟩ := h0; exact DataW.trod_lt m _ _ _ hm
  have lt1 : ∀ x ∈ p1, x.block < W.heap.size := by obtain ⟨m, hm⟩ := h1; exact DataW.trod_lt m _ _ _ hm
  have lt2 : ∀ x ∈ p2, x.block < W.heap.size := by obtain ⟨m, hm⟩ := h2; exact DataW.trod_lt m _ _ _ hm
  obtain ⟨bs0, hl0, rfl⟩ := arr16_of_trod (hval 0 22 v0 rfl rfl) h0
  obtain ⟨bs1, hl1, rfl⟩ := arr16_of_trod (hval 1 22 v1 rfl rfl) h1
  obtain ⟨bs2, hl2, rfl⟩ := arr16_of_trod (hval 2 22 v2 rfl rfl) h2
  clear hA0 hval0
  refine (keys_walk W (laid_of hL) bs0 hl0 bs1 hl1 bs2 hl2).mono fun e W' ⟨he, bel⟩ => ?_
  subst he
  exact ⟨_, rfl, _, _, _, [], _, [], hW', trodAll_mk1 (shut_bool Tryd.underlying4 _), (trodAll_cons_mk (Below.trod laidOut (by kernel_rfl) (of_decide_eq_true (by kernel_rfl)) h0 bel lt0) (trodAll_cons_mk (Below.trod laidOut (by kernel_rfl) (of_decide_eq_true (by kernel_rfl)) h1 bel lt1) (trodAll_cons_mk (Below.trod laidOut (by kernel_rfl) (of_decide_eq_true (by kernel_rfl)) h2 bel lt2) trodAll_mk0))), rfl, bel.frame _, fun h => by cases h⟩
theorem turnKeys_holds : Rows.TurnKeysSaid :=
  OpenClaim.holds_of_wide 7 Tryd.f7 rfl rfl rfl rfl rfl rfl rfl ⟨rfl, rfl, rfl, rfl, rfl⟩ rfl rfl rfl rfl rfl (by kernel_rfl) Tryd.func7 (by kernel_rfl)
    (of_decide_eq_true (by kernel_rfl)) (by unfold Func.isWrapper; first | (rw [if_pos (by decide +kernel)]; kernel_rfl) | (rw [if_neg (by decide +kernel)]; exact ⟨rfl, rfl⟩))
    (fun os started H enc _ => turnKeys_lifted os started H enc)
theorem turnKeys_card : Rows.TurnKeysCardSaid :=
  Claim7.holds_tied_plain_at .later [] [.data, .data] true _ false
    turnKeys_holds (fun _ h => by cases h) (by kernel_rfl) (fun _ h => by cases h) turnKeys_row_tie rfl ⟨rfl, rfl⟩ (by kernel_rfl) rfl
    (fun f fn hf hfn => by
      obtain rfl : f = 7 := Option.some.inj ((show Tryd.prog.funcNamed "wringer/wringerlaw03.TurnKeys" = some 7 by kernel_rfl).symm.trans hf) |>.symm
      obtain rfl : fn = Tryd.f7 := (Option.some.inj (Tryd.func7.symm.trans hfn)).symm
      exact ⟨by kernel_rfl, fun j t ht => by
        rw [Tryd.params7] at ht
        have hm : t ∈ [22, 22, 22] := by simpa using Array.mem_of_getElem? ht
        have hall : ([22, 22, 22].all fun u => !Tryd.prog.wantsStandIn u) = true := by kernel_rfl
        exact (show Tryd.prog.wantsStandIn t = false by simpa using List.all_eq_true.1 hall t hm)⟩)
    (by kernel_rfl)
#print axioms turnKeys_card

end Go.Proofs.YtejhnpgolpjleaaDoor
