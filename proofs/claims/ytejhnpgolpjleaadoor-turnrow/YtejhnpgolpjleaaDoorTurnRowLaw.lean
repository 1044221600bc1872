/- Proved here: for every block b and all rows of keys k and l TurnRow returns true and leaves its arguments as they were (rounds by two rows of keys, of 20 at most each, are those by the first row, and then by the second one; none leave the block as it is), where the two tables of coefficients lie as the program's text lays them; no other condition. -/
import Derived.Test.YtejhnpgolpjleaaDoorUndone
import Derived.Test.YtejhnpgolpjleaaDoorKeysRow
namespace Go.Proofs.YtejhnpgolpjleaaDoor
open Go.ChangeShapes Go.WideShapes Go.ChangeAt Go.RowKit

theorem row_far1 (X : List Value) (a a' : Option Addr) (n cap n' cap' : Nat) (hn : 20 < n) (w : World) : Calls Tryd.prog 8 #[.agg X.toArray, .slice a n cap, .slice a' n' cap'] w fun e w' => e = .returned (.bool true) ∧ Below w.heap.size w w' := by
  have h1 : (20 : Int) < n := by omega
  go_enter Tryd.func8, Tryd.ntmps8
  go_wp2
  go_ret
  exact ⟨rfl, below_alloc (Below.refl _ _) _⟩
theorem row_far2 (X : List Value) (a a' : Option Addr) (n cap n' cap' : Nat) (hn : ¬ 20 < n) (hn' : 20 < n') (w : World) : Calls Tryd.prog 8 #[.agg X.toArray, .slice a n cap, .slice a' n' cap'] w fun e w' => e = .returned (.bool true) ∧ Below w.heap.size w w' := by
  have h1 : decide ((20 : Int) < n) = false := by simp; omega
  have h2 : (20 : Int) < n' := by omega
  clear hn
  go_enter Tryd.func8, Tryd.ntmps8
  go_wp2
  go_ret
  exact ⟨rfl, below_alloc (Below.refl _ _) _⟩
set_option linter.unusedSimpArgs false in
set_option maxRecDepth 100000 in
set_option maxHeartbeats 8000000 in
theorem row_core (X A B : List Value) (hX : X.length = 16) (a a' : Option Addr) (n cap n' cap' : Nat) (hn : n ≤ 20) (hn' : n' ≤ 20) (w : World)
    (cT : Hid (∀ w', Below w.heap.size w w' → Calls Tryd.prog 11 #[] w' fun e w'' => (∃ g, e = .returned (.pointer (some ⟨g, 0, none⟩)) ∧ IsTab w'' g) ∧ Below w'.heap.size w' w''))
    (cA : Hid (∀ w', Below w.heap.size w w' → Calls Tryd.prog 18 #[] w' fun e w'' => e = .returned (.bool true) ∧ Below w'.heap.size w' w''))
    (hEB : ∀ w, (Op.equalIn 10000 22 (.agg B.toArray) (.agg B.toArray)).run Tryd.prog w = .ok true w)
    (hEX : ∀ w, (Op.equalIn 10000 22 (.agg X.toArray) (.agg X.toArray)).run Tryd.prog w = .ok true w)
    (hAp : Hid (∀ W, Below w.heap.size w W → ∃ v1 w1 v2 w2, (Builtin.append_ #[34, 34] 34 #[.slice (some ⟨W.heap.size, 0, none⟩) 0 0, .slice a n cap]).run Tryd.prog (W.alloc (.cells #[] 22)) = .ok v1 w1 ∧ (Builtin.append_ #[34, 34] 34 #[v1, .slice a' n' cap']).run Tryd.prog w1 = .ok v2 w2 ∧ Below W.heap.size W w2 ∧
      (∀ g w', IsTab w' g → Below w2.heap.size w2 w' → Calls Tryd.prog 23 #[.pointer (some ⟨g, 0, none⟩), .agg X.toArray, v2] w' fun e w'' => e = .returned (.agg B.toArray) ∧ Below w'.heap.size w' w'')))
    (cR : Hid (∀ g w', IsTab w' g → Below w.heap.size w w' → Calls Tryd.prog 23 #[.pointer (some ⟨g, 0, none⟩), .agg X.toArray, .slice a n cap] w' fun e w'' => e = .returned (.agg A.toArray) ∧ Below w'.heap.size w' w''))
    (cS : Hid (∀ g w', IsTab w' g → Below w.heap.size w w' → Calls Tryd.prog 23 #[.pointer (some ⟨g, 0, none⟩), .agg A.toArray, .slice a' n' cap'] w' fun e w'' => e = .returned (.agg B.toArray) ∧ Below w'.heap.size w' w''))
    (cN : Hid (∀ g w', IsTab w' g → Calls Tryd.prog 23 #[.pointer (some ⟨g, 0, none⟩), .agg X.toArray, .slice none 0 0] w' fun e w'' => e = .returned (.agg X.toArray) ∧ Below w'.heap.size w' w'')) :
    Calls Tryd.prog 8 #[.agg X.toArray, .slice a n cap, .slice a' n' cap'] w fun e w' => e = .returned (.bool true) ∧ Below w.heap.size w w' := by
  have iX : (Tryd.prog.info? 22).map (·.size) = some X.length := by rw [hX]; rfl
  have h1 : decide ((20 : Int) < n) = false := by simp; omega
  have h2 : decide ((20 : Int) < n') = false := by simp; omega
  have b0 := below_alloc (Below.refl w.heap.size w) (.cells X.toArray 22)
  have hR0 := hide (heap_alloc_new w (.cells X.toArray 22))
  have K0 := hide (cT.out _ b0)
  have B0 := hide b0
  clear b0 hn hn'
  go_enter Tryd.func8, Tryd.ntmps8
  go_wp2_with fail
  refine (K0.out).mono ?_
  rintro e W1 ⟨⟨g, rfl, ht⟩, b1⟩
  have hR1 := (b1.block _ (Array.getElem?_eq_some_iff.1 hR0.out).1).trans hR0.out
  have b2 := below_two B0.out b1
  obtain ⟨v1, w1, v2, W0, r1, r2, bA, cB⟩ := hAp.out W1 b2
  have RA := hide r1
  have RB := hide r2
  have HT := hide (ht.later bA)
  have BW := hide (below_two b2 bA)
  have rX : Hid (W0.rangeAt w.heap.size 0 X) := fun j v hj => by
    have h := (bA.block _ (Array.getElem?_eq_some_iff.1 hR1).1).trans hR1
    rw [Nat.zero_add, cell_of_row _ w.heap.size _ _ _ _ h]; simpa using hj
  have c1 := hide (fun w' (hb : Below W0.heap.size W0 w') => cB g w' (HT.out.later hb) hb)
  have c2 := hide (fun w' (hb : Below W0.heap.size W0 w') => cR.out g w' (HT.out.later hb) (below_two BW.out hb))
  have c3 := hide (fun w' (hb : Below W0.heap.size W0 w') => cS.out g w' (HT.out.later hb) (below_two BW.out hb))
  have c4 := hide (fun w' (hb : Below W0.heap.size W0 w') => cN.out g w' (HT.out.later hb))
  have c5 := hide (fun w' (hb : Below W0.heap.size W0 w') => cA.out w' (below_two BW.out hb))
  clear b1 b2 bA cB r1 r2 ht hR1 hR0 K0 B0
  go_wp2_with (first
    | (at_builtin; refine wpList_append_run rfl _ _ 34 rfl _ _ v1 w1 rfl rfl RA.out ?_)
    | (at_builtin; refine wpList_append_run rfl _ _ 34 rfl _ _ v2 W0 rfl rfl RB.out ?_))
  refine wp_region_held_drew (S := fun w' => Below W0.heap.size W0 w' ∧ w'.rangeAt w.heap.size 0 X) (by kernel_rfl) ?_ (fun hHeld => ?_)
  · exact ⟨(Below.refl _ _).drew, rX.out⟩
  refine wpAnyH_take (i := 0) (v := ?_) rfl (by kernel_rfl) (by kernel_rfl) (by kernel_rfl) (fun _ _ _ h => h) (Or.inl ⟨by rfl, ?_⟩) (by assumption) ?_
  rotate_left
  · (intro w hSw; (try dsimp only at hSw); simp only [List.getElem_toArray, List.getElem_cons_zero]; go_simp; try with_reducible rfl)
  simp only [Act.put, List.getElem_toArray, List.getElem_cons_zero, List.setIfInBounds_toArray, List.set_cons_zero, List.set_cons_succ]
  refine wpAnyH_take (i := 1) rfl (by kernel_rfl) (by kernel_rfl) (by kernel_rfl) (fun _ _ _ h => h) (yieldsIf_load_mid (by rfl) _ _ rfl _ _ rfl X _ (fun w hSw => hSw.2) Tryd.underlying22 rfl iX) (by assumption) ?_
  simp only [Act.put, List.getElem_toArray, List.getElem_cons_succ, List.getElem_cons_zero, List.setIfInBounds_toArray, List.set_cons_zero, List.set_cons_succ]
  refine wpAnyH_take (i := 2) (v := ?_) rfl (by kernel_rfl) (by kernel_rfl) (by kernel_rfl) (fun _ _ _ h => h) (Or.inl ⟨by rfl, ?_⟩) (by assumption) ?_
  rotate_left
  · (intro w hSw; (try dsimp only at hSw); simp only [List.getElem_toArray, List.getElem_cons_succ, List.getElem_cons_zero]; go_simp; try with_reducible rfl)
  simp only [Act.put, List.getElem_toArray, List.getElem_cons_succ, List.getElem_cons_zero, List.setIfInBounds_toArray, List.set_cons_zero, List.set_cons_succ]
  refine wpAnyH_take (i := 4) (v := ?_) rfl (by kernel_rfl) (by kernel_rfl) (by kernel_rfl) (fun _ _ _ h => h) (Or.inl ⟨by rfl, ?_⟩) (by assumption) ?_
  rotate_left
  · (intro w hSw; (try dsimp only at hSw); simp only [List.getElem_toArray, List.getElem_cons_succ, List.getElem_cons_zero]; go_simp; try with_reducible rfl)
  simp only [Act.put, List.getElem_toArray, List.getElem_cons_succ, List.getElem_cons_zero, List.setIfInBounds_toArray, List.set_cons_zero, List.set_cons_succ]
  refine wpAnyH_take (i := 5) (v := ?_) rfl (by kernel_rfl) (by kernel_rfl) (by kernel_rfl) (fun _ _ _ h => h) (Or.inl ⟨by rfl, ?_⟩) (by assumption) ?_
  rotate_left
  · (intro w hSw; (try dsimp only at hSw); simp only [List.getElem_toArray, List.getElem_cons_succ, List.getElem_cons_zero]; go_simp; try with_reducible rfl)
  simp only [Act.put, List.getElem_toArray, List.getElem_cons_succ, List.getElem_cons_zero, List.setIfInBounds_toArray, List.set_cons_zero, List.set_cons_succ]
  refine wpAnyH_take (i := 6) rfl (by kernel_rfl) (by kernel_rfl) (by kernel_rfl) (fun _ _ _ h => h) (yieldsIf_load_mid (by rfl) _ _ rfl _ _ rfl X _ (fun w hSw => hSw.2) Tryd.underlying22 rfl iX) (by assumption) ?_
  simp only [Act.put, List.getElem_toArray, List.getElem_cons_succ, List.getElem_cons_zero, List.setIfInBounds_toArray, List.set_cons_zero, List.set_cons_succ]
  refine wpAnyH_take (i := 7) (v := ?_) rfl (by kernel_rfl) (by kernel_rfl) (by kernel_rfl) (fun _ _ _ h => h) (Or.inl ⟨by rfl, ?_⟩) (by assumption) ?_
  rotate_left
  · (intro w hSw; (try dsimp only at hSw); simp only [List.getElem_toArray, List.getElem_cons_succ, List.getElem_cons_zero]; go_simp; try with_reducible rfl)
  simp only [Act.put, List.getElem_toArray, List.getElem_cons_succ, List.getElem_cons_zero, List.setIfInBounds_toArray, List.set_cons_zero, List.set_cons_succ]
  refine wpAnyH_take (i := 9) (v := ?_) rfl (by kernel_rfl) (by kernel_rfl) (by kernel_rfl) (fun _ _ _ h => h) (Or.inl ⟨by rfl, ?_⟩) (by assumption) ?_
  rotate_left
  · (intro w hSw; (try dsimp only at hSw); simp only [List.getElem_toArray, List.getElem_cons_succ, List.getElem_cons_zero]; go_simp; try with_reducible rfl)
  simp only [Act.put, List.getElem_toArray, List.getElem_cons_succ, List.getElem_cons_zero, List.setIfInBounds_toArray, List.set_cons_zero, List.set_cons_succ]
  refine wpAnyH_ready (rs := [3]) (by kernel_rfl) (by simp) ?_
  refine AllReadyH.cons rfl (fun K hK => ?_) AllReadyH.nil
  simp only [List.getElem_toArray, List.getElem_cons_succ, List.getElem_cons_zero]
  go_simp
  refine (c1.out _ hHeld.1).mono ?_
  rintro e x1 ⟨rfl, bb1⟩
  go_wp2_with fail
  refine hK.out _ _ ?_ (fun hHeld => ?_)
  · exact ⟨below_two hHeld.1 bb1, range_later hHeld.2 bb1⟩
  clear hK K
  try simp only [Act.put, List.setIfInBounds_toArray, List.set_cons_zero, List.set_cons_succ]
  refine wpAnyH_ready (rs := [8]) (by kernel_rfl) (by simp) ?_
  refine AllReadyH.cons rfl (fun K hK => ?_) AllReadyH.nil
  simp only [List.getElem_toArray, List.getElem_cons_succ, List.getElem_cons_zero]
  go_simp
  refine (c2.out _ hHeld.1).mono ?_
  rintro e x2 ⟨rfl, bb2⟩
  go_wp2_with fail
  refine hK.out _ _ ?_ (fun hHeld => ?_)
  · exact ⟨below_two hHeld.1 bb2, range_later hHeld.2 bb2⟩
  clear hK K
  try simp only [Act.put, List.setIfInBounds_toArray, List.set_cons_zero, List.set_cons_succ]
  refine wpAnyH_ready (rs := [10]) (by kernel_rfl) (by simp) ?_
  refine AllReadyH.cons rfl (fun K hK => ?_) AllReadyH.nil
  simp only [List.getElem_toArray, List.getElem_cons_succ, List.getElem_cons_zero]
  go_simp
  refine (c3.out _ hHeld.1).mono ?_
  rintro e x3 ⟨rfl, bb3⟩
  go_wp2_with fail
  refine hK.out _ _ ?_ (fun hHeld => ?_)
  · exact ⟨below_two hHeld.1 bb3, range_later hHeld.2 bb3⟩
  clear hK K
  try simp only [Act.put, List.setIfInBounds_toArray, List.set_cons_zero, List.set_cons_succ]
  refine wpAnyH_take (i := 11) (v := ?_) rfl (by kernel_rfl) (by kernel_rfl) (by kernel_rfl) (fun _ _ _ h => h) (Or.inl ⟨by rfl, ?_⟩) (by assumption) ?_
  rotate_left
  · (intro w hSw; (try dsimp only at hSw); simp only [List.getElem_toArray, List.getElem_cons_succ, List.getElem_cons_zero]; go_simp; try with_reducible rfl)
  simp only [Act.put, List.getElem_toArray, List.getElem_cons_succ, List.getElem_cons_zero, List.setIfInBounds_toArray, List.set_cons_zero, List.set_cons_succ]
  refine wpAnyH_take (i := 12) (v := ?_) rfl (by kernel_rfl) (by kernel_rfl) (by kernel_rfl) (fun _ _ _ h => h) (Or.inl ⟨by rfl, ?_⟩) (by assumption) ?_
  rotate_left
  · (intro w hSw; (try dsimp only at hSw); simp only [List.getElem_toArray, List.getElem_cons_succ, List.getElem_cons_zero]; go_simp; try with_reducible rfl)
  simp only [Act.put, List.getElem_toArray, List.getElem_cons_succ, List.getElem_cons_zero, List.setIfInBounds_toArray, List.set_cons_zero, List.set_cons_succ]
  refine wpAnyH_take (i := 13) (v := ?_) rfl (by kernel_rfl) (by kernel_rfl) (by kernel_rfl) (fun _ _ _ h => h) (Or.inl ⟨by rfl, ?_⟩) (by assumption) ?_
  rotate_left
  · (intro w hSw; (try dsimp only at hSw); simp only [List.getElem_toArray, List.getElem_cons_succ, List.getElem_cons_zero]; go_simp; try with_reducible rfl)
  simp only [Act.put, List.getElem_toArray, List.getElem_cons_succ, List.getElem_cons_zero, List.setIfInBounds_toArray, List.set_cons_zero, List.set_cons_succ]
  refine wpAnyH_take (i := 14) rfl (by kernel_rfl) (by kernel_rfl) (by kernel_rfl) (fun _ _ _ h => h) (yieldsIf_load_mid (by rfl) _ _ rfl _ _ rfl X _ (fun w hSw => hSw.2) Tryd.underlying22 rfl iX) (by assumption) ?_
  simp only [Act.put, List.getElem_toArray, List.getElem_cons_succ, List.getElem_cons_zero, List.setIfInBounds_toArray, List.set_cons_zero, List.set_cons_succ]
  refine wpAnyH_take (i := 16) rfl (by kernel_rfl) (by kernel_rfl) (by kernel_rfl) (fun _ _ _ h => h) (yieldsIf_load_mid (by rfl) _ _ rfl _ _ rfl X _ (fun w hSw => hSw.2) Tryd.underlying22 rfl iX) (by assumption) ?_
  simp only [Act.put, List.getElem_toArray, List.getElem_cons_succ, List.getElem_cons_zero, List.setIfInBounds_toArray, List.set_cons_zero, List.set_cons_succ]
  refine wpAnyH_ready (rs := [15]) (by kernel_rfl) (by simp) ?_
  refine AllReadyH.cons rfl (fun K hK => ?_) AllReadyH.nil
  simp only [List.getElem_toArray, List.getElem_cons_succ, List.getElem_cons_zero]
  go_simp
  refine (c4.out _ hHeld.1).mono ?_
  rintro e x4 ⟨rfl, bb4⟩
  go_wp2_with fail
  refine hK.out _ _ ?_ (fun hHeld => ?_)
  · exact ⟨below_two hHeld.1 bb4, range_later hHeld.2 bb4⟩
  clear hK K
  try simp only [Act.put, List.setIfInBounds_toArray, List.set_cons_zero, List.set_cons_succ]
  refine wpAnyH_take (i := 17) (v := ?_) rfl (by kernel_rfl) (by kernel_rfl) (by kernel_rfl) (fun _ _ _ h => h) (Or.inl ⟨by rfl, ?_⟩) (by assumption) ?_
  rotate_left
  · (intro w hSw; (try dsimp only at hSw); simp only [List.getElem_toArray, List.getElem_cons_succ, List.getElem_cons_zero]; go_simp; try with_reducible rfl)
  simp only [Act.put, List.getElem_toArray, List.getElem_cons_succ, List.getElem_cons_zero, List.setIfInBounds_toArray, List.set_cons_zero, List.set_cons_succ]
  refine wpAnyH_take (i := 18) (v := ?_) rfl (by kernel_rfl) (by kernel_rfl) (by kernel_rfl) (fun _ _ _ h => h) (Or.inl ⟨by rfl, ?_⟩) (by assumption) ?_
  rotate_left
  · (intro w hSw; (try dsimp only at hSw); simp only [List.getElem_toArray, List.getElem_cons_succ, List.getElem_cons_zero]; go_simp; try with_reducible rfl)
  simp only [Act.put, List.getElem_toArray, List.getElem_cons_succ, List.getElem_cons_zero, List.setIfInBounds_toArray, List.set_cons_zero, List.set_cons_succ]
  refine wpAnyH_take (i := 19) (v := ?_) rfl (by kernel_rfl) (by kernel_rfl) (by kernel_rfl) (fun _ _ _ h => h) (Or.inl ⟨by rfl, ?_⟩) (by assumption) ?_
  rotate_left
  · (intro w hSw; (try dsimp only at hSw); simp only [List.getElem_toArray, List.getElem_cons_succ, List.getElem_cons_zero]; go_simp; try with_reducible rfl)
  simp only [Act.put, List.getElem_toArray, List.getElem_cons_succ, List.getElem_cons_zero, List.setIfInBounds_toArray, List.set_cons_zero, List.set_cons_succ]
  refine wpAnyH_ready (rs := [20]) (by kernel_rfl) (by simp) ?_
  refine AllReadyH.cons rfl (fun K hK => ?_) AllReadyH.nil
  simp only [List.getElem_toArray, List.getElem_cons_succ, List.getElem_cons_zero]
  go_simp
  refine (c5.out _ hHeld.1).mono ?_
  rintro e x5 ⟨rfl, bb5⟩
  go_wp2_with fail
  refine hK.out _ _ ?_ (fun hHeld => ?_)
  · exact ⟨below_two hHeld.1 bb5, range_later hHeld.2 bb5⟩
  clear hK K
  try simp only [Act.put, List.setIfInBounds_toArray, List.set_cons_zero, List.set_cons_succ]
  refine wpAnyH_take (i := 21) (v := ?_) rfl (by kernel_rfl) (by kernel_rfl) (by kernel_rfl) (fun _ _ _ h => h) (Or.inl ⟨by rfl, ?_⟩) (by assumption) ?_
  rotate_left
  · (intro w hSw; (try dsimp only at hSw); simp only [List.getElem_toArray, List.getElem_cons_succ, List.getElem_cons_zero]; go_simp; try with_reducible rfl)
  simp only [Act.put, List.getElem_toArray, List.getElem_cons_succ, List.getElem_cons_zero, List.setIfInBounds_toArray, List.set_cons_zero, List.set_cons_succ]
  refine wpAnyH_take (i := 22) (v := ?_) rfl (by kernel_rfl) (by kernel_rfl) (by kernel_rfl) (fun _ _ _ h => h) (Or.inl ⟨by rfl, ?_⟩) (by assumption) ?_
  rotate_left
  · (intro w hSw; (try dsimp only at hSw); simp only [List.getElem_toArray, List.getElem_cons_succ, List.getElem_cons_zero]; go_simp; try with_reducible rfl)
  simp only [Act.put, List.getElem_toArray, List.getElem_cons_succ, List.getElem_cons_zero, List.setIfInBounds_toArray, List.set_cons_zero, List.set_cons_succ]
  refine wpAnyH_done (by kernel_rfl) ?_ _
  go_wp2
  go_ret
  exact ⟨rfl, below_two BW.out hHeld.1⟩
theorem row_walk (w : World) (hl : Laid w) (bs : List UInt8) (hb : bs.length = 16) (v : Value) (n : Nat) (ks : Nat → Nat → Nat) (hk : IsK w v n ks) (v' : Value) (m : Nat) (ls : Nat → Nat → Nat) (hl' : IsK w v' m ls) :
    Calls Tryd.prog 8 #[.agg (bcells bs).toArray, v, v'] w fun e w' => e = .returned (.bool true) ∧ Below w.heap.size w w' := by
  rw [bcells_bc bs, hb]
  have hf := lf_byt bs
  generalize lf bs = f at hf ⊢
  have hk2 := hk
  have hl2 := hl'
  obtain ⟨h0, a, cap, rfl, _⟩ := hk2
  obtain ⟨h0', a', cap', rfl, _⟩ := hl2
  by_cases hn : 20 < n
  · exact row_far1 _ a a' n cap m cap' hn w
  by_cases hm : 20 < m
  · exact row_far2 _ a a' n cap m cap' hn hm w
  have hh : ∀ (h : Nat → Nat) (hh : Byt h) (w : World), (Op.equalIn 10000 22 (.agg (bc 16 h).toArray) (.agg (bc 16 h).toArray)).run Tryd.prog w = .ok true w := fun h hh w => by rw [eq_bc w _ 16 Tryd.underlying22 h h hh hh, eqb_refl]
  have hbk : ∀ i, Byt (both ks ls n i) := fun i => by unfold both; split; exact h0 i; exact h0' _
  refine row_core (bc 16 f) (bc 16 (rnds f ks n)) (bc 16 (rnds (rnds f ks n) ls m)) (bc_len _ _) a a' n cap m cap' (by omega) (by omega) w (fun w' hb => tables_any w' (hl.later hb)) (fun w' hb => awake_any w' (hl.later hb)) (hh _ (rnds_byt (rnds_byt hf h0 n) h0' m)) (hh _ hf) (fun W hW => ?_)
    (fun g w' ht hb => rounds_any g n _ f ks hf (by omega) w' ht (hk.later hb)) (fun g w' ht hb => rounds_any g m _ (rnds f ks n) ls (rnds_byt hf h0 n) (by omega) w' ht (hl'.later hb)) (fun g w' ht => rounds_any g 0 _ f (fun _ _ => 0) hf (by decide) w' ht ⟨fun _ => zero_byt, none, 0, rfl, .inl rfl⟩)
  have own0 : (W.alloc (.cells #[] 22)).ownsRow W.heap.size 22 16 (.slice (some ⟨W.heap.size, 0, none⟩) 0 0) 0 [] :=
    ⟨rfl, .inr ⟨W.heap.size, 0, #[], rfl, Nat.le_refl _, heap_alloc_new _ _, Nat.le_refl _, by decide, rfl, rfl⟩⟩
  have bA := below_alloc (Below.refl W.heap.size W) (.cells #[] 22)
  obtain ⟨v1, w1, r1, o1, b1⟩ := append_keys _ W.heap.size 0 _ _ _ n ks own0 (hk.later (below_two hW bA)) (by omega) bA.size
  have b1' : Below W.heap.size W w1 := bA.trans b1
  rw [Nat.zero_add, List.nil_append] at o1
  obtain ⟨v2, w2, r2, o2, b2⟩ := append_keys w1 W.heap.size n v1 _ _ m ls o1 (hl'.later (below_two hW b1')) (by omega) b1'.size
  rw [both_flat] at o2
  refine ⟨v1, w1, v2, w2, r1, r2, b1'.trans b2, fun g w' ht hb => ?_⟩
  have := rounds_any g (n + m) v2 f (both ks ls n) hf (by omega) w' ht ((isK_of_owns hbk o2).later hb)
  rw [rnds_both] at this
  exact this
set_option linter.unusedVariables false in
set_option maxRecDepth 100000 in
theorem turnRow_lifted (os : Os) (started : os.Started) (H : Type) (enc : TypeId × Value → H) :
    ReturnsInHanded {} Tryd.checked os 8 .any (fun w args => (Rows.turnRowSpec.pre enc Tryd.prog Tryd.f8 [] false w args ∧ laidMetH Tryd.prog lay2 w) ∧ sizedMet enc Tryd.prog Tryd.f8 (OpenSpec.ofChange Rows.turnRowSpec) false w args)
      (Rows.turnRowSpec.post enc Tryd.prog Tryd.f8 false true false false) := by
  refine returnsInHanded_of_change_and (C := Tryd.checked) (X := fun w _ => laidMetH Tryd.prog lay2 w) (fun _ _ _ hh h => h.of_heap hh) own started (by kernel_rfl) Tryd.func8
    (ChangeSpec.witness_shaped (enc := enc) (C := Tryd.checked) (os := os) (X := fun w _ => laidMetH Tryd.prog lay2 w) false (World.doorLaid Tryd.prog 400 os) #[.agg #[.int .u8 0, .int .u8 0, .int .u8 0, .int .u8 0, .int .u8 0, .int .u8 0, .int .u8 0, .int .u8 0, .int .u8 0, .int .u8 0, .int .u8 0, .int .u8 0, .int .u8 0, .int .u8 0, .int .u8 0, .int .u8 0], .slice none 0 0, .slice none 0 0] 8 rfl (World.shaped_of_RefB (by kernel_rfl) (by kernel_rfl)) (by kernel_rfl) (by kernel_rfl) (by kernel_rfl) (door_met os _)) ?_
  intro W base args ds gs before hval0 hW _ _ hL _
  have hval : ∀ (j : Nat) t v, Tryd.f8.params[j]? = some t → args[j]? = some v → Value.okWide Tryd.prog W .any base t v := hval0
  have hW' := hW
  obtain ⟨p, q, hA0, hV, rfl, hfz, hnd⟩ := hW
  have hA : DataW.TrodAll enc Tryd.prog W 0 (fun _ => true) true Tryd.f8.params.toList args.toList ds p := hA0
  rw [Tryd.params8] at hA hval
  obtain ⟨v0, vs0, d0, ds0, p0, q0, hargs, rfl, rfl, h0, r0⟩ := trodAll_cons hA
  obtain ⟨v1, vs1, d1, ds1, p1, q1, rfl, rfl, rfl, h1, r1⟩ := trodAll_cons r0
  obtain ⟨v2, vs2, d2, ds2, p2, q2, rfl, rfl, rfl, h2, r2⟩ := trodAll_cons r1
  obtain ⟨rfl, rfl, rfl⟩ := trodAll_nil r2
  obtain rfl : args = #[v0, v1, v2] := by cases args; simp_all
  obtain ⟨rfl, rfl⟩ := trodVars_none hV
  have lt0 : ∀ x ∈ p0, x.block < W.heap.size := by obtain ⟨m, hm⟩ := h0; exact DataW.trod_lt m _ _ _ hm
  have lt1 : ∀ x ∈ p1, x.block < W.heap.size := by obtain ⟨m, hm⟩ := h1; exact DataW.trod_lt m _ _ _ hm
  have lt2 : ∀ x ∈ p2, x.block < W.heap.size := by obtain ⟨m, hm⟩ := h2; exact DataW.trod_lt m _ _ _ hm
  obtain ⟨bs0, hl0, rfl⟩ := arr16_of_trod (hval 0 22 v0 rfl rfl) h0
  obtain ⟨a1, len1, cap1, rfl⟩ := okWide_slice Tryd.underlying34 (hval 1 34 v1 rfl rfl)
  obtain ⟨ks1, hb1⟩ := isK_of_trod h1
  obtain ⟨a2, len2, cap2, rfl⟩ := okWide_slice Tryd.underlying34 (hval 2 34 v2 rfl rfl)
  obtain ⟨ks2, hb2⟩ := isK_of_trod h2
  clear hA0 hval0
  refine (row_walk W (laid_of hL) bs0 hl0 _ len1 ks1 hb1 _ len2 ks2 hb2).mono fun e W' ⟨he, bel⟩ => ?_
  subst he
  exact ⟨_, rfl, _, _, _, [], _, [], hW', trodAll_mk1 (shut_bool Tryd.underlying4 _), (trodAll_cons_mk (Below.trod laidOut (by kernel_rfl) (of_decide_eq_true (by kernel_rfl)) h0 bel lt0) (trodAll_cons_mk (Below.trod laidOut (by kernel_rfl) (of_decide_eq_true (by kernel_rfl)) h1 bel lt1) (trodAll_cons_mk (Below.trod laidOut (by kernel_rfl) (of_decide_eq_true (by kernel_rfl)) h2 bel lt2) trodAll_mk0))), rfl, bel.frame _, fun h => by cases h⟩
theorem turnRow_holds : Rows.TurnRowSaid :=
  OpenClaim.holds_of_wide 8 Tryd.f8 rfl rfl rfl rfl rfl rfl rfl ⟨rfl, rfl, rfl, rfl, rfl⟩ rfl rfl rfl rfl rfl (by kernel_rfl) Tryd.func8 (by kernel_rfl)
    (of_decide_eq_true (by kernel_rfl)) (by unfold Func.isWrapper; first | (rw [if_pos (by decide +kernel)]; kernel_rfl) | (rw [if_neg (by decide +kernel)]; exact ⟨rfl, rfl⟩))
    (fun os started H enc _ => turnRow_lifted os started H enc)
theorem turnRow_card : Rows.TurnRowCardSaid :=
  Claim7.holds_tied_plain_at .later [] [.data, .data] true _ false
    turnRow_holds (fun _ h => by cases h) (by kernel_rfl) (fun _ h => by cases h) turnRow_row_tie rfl ⟨rfl, rfl⟩ (by kernel_rfl) rfl
    (fun f fn hf hfn => by
      obtain rfl : f = 8 := Option.some.inj ((show Tryd.prog.funcNamed "wringer/wringerlaw03.TurnRow" = some 8 by kernel_rfl).symm.trans hf) |>.symm
      obtain rfl : fn = Tryd.f8 := (Option.some.inj (Tryd.func8.symm.trans hfn)).symm
      exact ⟨by kernel_rfl, fun j t ht => by
        rw [Tryd.params8] at ht
        have hm : t ∈ [22, 34, 34] := by simpa using Array.mem_of_getElem? ht
        have hall : ([22, 34, 34].all fun u => !Tryd.prog.wantsStandIn u) = true := by kernel_rfl
        exact (show Tryd.prog.wantsStandIn t = false by simpa using List.all_eq_true.1 hall t hm)⟩)
    (by kernel_rfl)
#print axioms turnRow_card

end Go.Proofs.YtejhnpgolpjleaaDoor
