/- Own: the contract of changed of layer 4 (no statement is proved here). -/
import Derived.Test.YtlkihbmkekadeaaDoorAWord
namespace Go.Proofs.YtlkihbmkekadeaaDoor
open Go.ChangeShapes Go.WideShapes Go.ChangeAt Go.RowKit
set_option maxRecDepth 20000

set_option linter.unusedSimpArgs false in
set_option maxRecDepth 100000 in
set_option maxHeartbeats 1000000 in
theorem changed_first4 (v : Value) (a b c d p q r s z o at' k : Nat) (w : World) (hr : at' % 4 = 0) (hk : k + 1 = at' / 4) (hat : at' < 60) (ho : Hid (bits .xor .u8 (p : Nat) (z : Nat) = ((o : Nat) : Int)))
    (kB : Hid (∀ w', Below w.heap.size w w' → Calls Tryd.prog 72 #[v, .agg #[.int .u8 (b : Nat), .int .u8 (c : Nat), .int .u8 (d : Nat), .int .u8 (a : Nat)]] w' fun e w'' => e = .returned (.agg #[.int .u8 (p : Nat), .int .u8 (q : Nat), .int .u8 (r : Nat), .int .u8 (s : Nat)]) ∧ Below w'.heap.size w' w''))
    (kP : Hid (∀ w', Calls Tryd.prog 73 #[.int .u8 2, .int .i64 (k : Nat)] w' fun e w'' => e = .returned (.int .u8 (z : Nat)) ∧ w'' = w')) :
    Calls Tryd.prog 59 #[v, .agg #[.int .u8 (a : Nat), .int .u8 (b : Nat), .int .u8 (c : Nat), .int .u8 (d : Nat)], .int .i64 (at' : Nat), .int .i64 4] w fun e w' => e = .returned (.agg #[.int .u8 (o : Nat), .int .u8 (q : Nat), .int .u8 (r : Nat), .int .u8 (s : Nat)]) ∧ Below w.heap.size w w' := by
  have B0 := hide (below_alloc (below_alloc (Below.refl w.heap.size w) (.cells #[.int .u8 (a : Nat), .int .u8 (b : Nat), .int .u8 (c : Nat), .int .u8 (d : Nat)] 71)) (.cells #[.int .u8 0, .int .u8 0, .int .u8 0, .int .u8 0] 71))
  have K1 := hide (kB.out _ B0.out)
  have ho' := ho.out
  obtain ⟨q1, eq1⟩ : ∃ q1, q1 = at' / 4 := ⟨_, rfl⟩
  have w1 : IntKind.i64.wrap ((at' : Int) / 4) = (q1 : Int) := by rw [IntKind.wrap_i64]; omega
  have w2 : IntKind.i64.wrap ((q1 : Int) - 1) = (k : Int) := by rw [IntKind.wrap_i64]; omega
  go_enter Tryd.func59, Tryd.ntmps59
  go_wp2_with fail
  refine (K1.out).mono ?_
  rintro e w1 ⟨rfl, b1⟩
  have R0 := hide ((b1.block (w.heap.size + 1) (by simp)).trans (heap_alloc2_new _ _ _))
  have B1 := hide (below_two B0.out b1)
  have R1 : Hid (∀ x : Obj, (w1.alloc x).drew.heap[w.heap.size + 1]? = some (.cells #[.int .u8 0, .int .u8 0, .int .u8 0, .int .u8 0] 71 (0, 0))) := fun x =>
    ((below_alloc (Below.refl w1.heap.size w1) x).block _ (Array.getElem?_eq_some_iff.1 R0.out).1).trans R0.out
  clear hk eq1 hr K1 B0 b1 R0
  go_wp2_with fail
  refine wp_region_held_drew (S := fun _ => True) (by kernel_rfl) trivial (fun hHeld => ?_)
  refine wpAnyH_take (i := 0) (v := ?_) rfl (by kernel_rfl) (by kernel_rfl) (by kernel_rfl) (fun _ _ _ h => h) (Or.inl ⟨by rfl, ?_⟩) (by assumption) ?_
  rotate_left
  · (intro w hSw; (try dsimp only at hSw); simp only [List.getElem_toArray, List.getElem_cons_zero]; go_simp; try with_reducible rfl)
  simp only [Act.put, List.getElem_toArray, List.getElem_cons_zero, List.setIfInBounds_toArray, List.set_cons_zero, List.set_cons_succ]
  refine wpAnyH_take (i := 2) (v := ?_) rfl (by kernel_rfl) (by kernel_rfl) (by kernel_rfl) (fun _ _ _ h => h) (Or.inl ⟨by rfl, ?_⟩) (by assumption) ?_
  rotate_left
  · (intro w hSw; (try dsimp only at hSw); simp only [List.getElem_toArray, List.getElem_cons_succ, List.getElem_cons_zero]; go_simp; try with_reducible rfl)
  simp only [Act.put, List.getElem_toArray, List.getElem_cons_succ, List.getElem_cons_zero, List.setIfInBounds_toArray, List.set_cons_zero, List.set_cons_succ]
  refine wpAnyH_take (i := 3) (v := ?_) rfl (by kernel_rfl) (by kernel_rfl) (by kernel_rfl) (fun _ _ _ h => h) (Or.inl ⟨by rfl, ?_⟩) (by assumption) ?_
  rotate_left
  · (intro w hSw; (try dsimp only at hSw); simp only [List.getElem_toArray, List.getElem_cons_succ, List.getElem_cons_zero]; go_simp; try with_reducible rfl)
  simp only [Act.put, List.getElem_toArray, List.getElem_cons_succ, List.getElem_cons_zero, List.setIfInBounds_toArray, List.set_cons_zero, List.set_cons_succ]
  refine wpAnyH_take (i := 4) (v := ?_) rfl (by kernel_rfl) (by kernel_rfl) (by kernel_rfl) (fun _ _ _ h => h) (Or.inl ⟨by rfl, ?_⟩) (by assumption) ?_
  rotate_left
  · (intro w hSw; (try dsimp only at hSw); simp only [List.getElem_toArray, List.getElem_cons_succ, List.getElem_cons_zero]; go_simp; try with_reducible rfl)
  simp only [Act.put, List.getElem_toArray, List.getElem_cons_succ, List.getElem_cons_zero, List.setIfInBounds_toArray, List.set_cons_zero, List.set_cons_succ]
  refine wpAnyH_take (i := 5) (v := ?_) rfl (by kernel_rfl) (by kernel_rfl) (by kernel_rfl) (fun _ _ _ h => h) (Or.inl ⟨by rfl, ?_⟩) (by assumption) ?_
  rotate_left
  · (intro w hSw; (try dsimp only at hSw); simp only [List.getElem_toArray, List.getElem_cons_succ, List.getElem_cons_zero]; go_simp; try with_reducible rfl)
  simp only [Act.put, List.getElem_toArray, List.getElem_cons_succ, List.getElem_cons_zero, List.setIfInBounds_toArray, List.set_cons_zero, List.set_cons_succ]
  refine wpAnyH_ready (rs := [1, 6]) (by kernel_rfl) (by simp) ?_
  refine AllReadyH.cons rfl (fun K hK => ?_) (AllReadyH.cons rfl (fun K hK => ?_) AllReadyH.nil)
  · simp only [List.getElem_toArray, List.getElem_cons_succ, List.getElem_cons_zero]
    go_simp
    refine hK.out _ _ trivial (fun hHeld => ?_)
    clear hK K
    try simp only [Act.put, List.setIfInBounds_toArray, List.set_cons_zero, List.set_cons_succ]
    refine wpAnyH_ready (rs := [6]) (by kernel_rfl) (by simp) ?_
    refine AllReadyH.cons rfl (fun K hK => ?_) AllReadyH.nil
    simp only [List.getElem_toArray, List.getElem_cons_succ, List.getElem_cons_zero]
    go_simp
    refine (kP.out _).mono ?_
    rintro e y9 ⟨rfl, rfl⟩
    refine hK.out _ _ ?_ (fun hHeld => ?_)
    · trivial
    clear hK K
    try simp only [Act.put, List.setIfInBounds_toArray, List.set_cons_zero, List.set_cons_succ]
    refine wpAnyH_take (i := 7) (v := ?_) rfl (by kernel_rfl) (by kernel_rfl) (by kernel_rfl) (fun _ _ _ h => h) (Or.inl ⟨by rfl, ?_⟩) (by assumption) ?_
    rotate_left
    · (intro w hSw; (try dsimp only at hSw); simp only [List.getElem_toArray, List.getElem_cons_succ, List.getElem_cons_zero]; go_simp; try with_reducible rfl)
    simp only [Act.put, List.getElem_toArray, List.getElem_cons_succ, List.getElem_cons_zero, List.setIfInBounds_toArray, List.set_cons_zero, List.set_cons_succ]
    refine wpAnyH_take (i := 8) (v := ?_) rfl (by kernel_rfl) (by kernel_rfl) (by kernel_rfl) (fun _ _ _ h => h) (Or.inl ⟨by rfl, ?_⟩) (by assumption) ?_
    rotate_left
    · (intro w hSw; (try dsimp only at hSw); simp only [List.getElem_toArray, List.getElem_cons_succ, List.getElem_cons_zero]; go_simp; try with_reducible rfl)
    simp only [Act.put, List.getElem_toArray, List.getElem_cons_succ, List.getElem_cons_zero, List.setIfInBounds_toArray, List.set_cons_zero, List.set_cons_succ]
    refine wpAnyH_ready (rs := [9]) (by kernel_rfl) (by simp) ?_
    refine AllReadyH.cons rfl (fun K hK => ?_) AllReadyH.nil
    simp only [List.getElem_toArray, List.getElem_cons_succ, List.getElem_cons_zero]
    go_simp
    refine hK.out _ _ ?_ (fun hHeld => ?_)
    · trivial
    clear hK K
    try simp only [Act.put, List.setIfInBounds_toArray, List.set_cons_zero, List.set_cons_succ]
    refine wpAnyH_done (by kernel_rfl) ?_ _
    obtain ⟨A, hA⟩ : ∃ A : Array Value, A = #[.int .u8 (o : Nat), .int .u8 (q : Nat), .int .u8 (r : Nat), .int .u8 (s : Nat)] := ⟨_, rfl⟩
    rw [← hA]
    have sA : A.size = 4 := by rw [hA]; rfl
    have oA : Hid (A.all (·.oneCell') = true) := by show _ = _; rw [hA]; exact one4 _ _ _ _
    have HA := hide hA
    have L0 : Hid ((w1.alloc (.cells A 71)).drew.heap[w1.heap.size]? = some (.cells A 71 (0, 0))) := heap_alloc_new _ _
    clear hA ho'
    go_wp2_with (first
      | (refine wpList_load_row rfl 71 _ rfl w1.heap.size rfl 71 A (0, 0) _ L0.out Tryd.underlying71 rfl (by rw [sA]; rfl) ?_)
      | (refine wpList_store_row rfl 71 _ _ rfl (w.heap.size + 1) A rfl rfl 71 #[.int .u8 0, .int .u8 0, .int .u8 0, .int .u8 0] (R1.out _) (by rw [sA]; rfl) (by rw [sA]; rfl) oA.out ?_))
    refine bodyPost_ret (v := .agg A) (results_cell_row rfl _ _ (w.heap.size + 1) 71 A (0, 0) _ rfl (setRow_heap _ _ _ _ _ _ (R1.out _)) Tryd.underlying71 rfl (by rw [sA]; rfl)) rfl ⟨by rw [HA.out], ?_⟩
    exact below_setRow (below_alloc B1.out _).drew (by omega) _
  · simp only [List.getElem_toArray, List.getElem_cons_succ, List.getElem_cons_zero]
    go_simp
    refine (kP.out _).mono ?_
    rintro e y9 ⟨rfl, rfl⟩
    refine hK.out _ _ trivial (fun hHeld => ?_)
    clear hK K
    try simp only [Act.put, List.setIfInBounds_toArray, List.set_cons_zero, List.set_cons_succ]
    refine wpAnyH_ready (rs := [1]) (by kernel_rfl) (by simp) ?_
    refine AllReadyH.cons rfl (fun K hK => ?_) AllReadyH.nil
    simp only [List.getElem_toArray, List.getElem_cons_succ, List.getElem_cons_zero]
    go_simp
    refine hK.out _ _ ?_ (fun hHeld => ?_)
    · trivial
    clear hK K
    try simp only [Act.put, List.setIfInBounds_toArray, List.set_cons_zero, List.set_cons_succ]
    refine wpAnyH_take (i := 7) (v := ?_) rfl (by kernel_rfl) (by kernel_rfl) (by kernel_rfl) (fun _ _ _ h => h) (Or.inl ⟨by rfl, ?_⟩) (by assumption) ?_
    rotate_left
    · (intro w hSw; (try dsimp only at hSw); simp only [List.getElem_toArray, List.getElem_cons_succ, List.getElem_cons_zero]; go_simp; try with_reducible rfl)
    simp only [Act.put, List.getElem_toArray, List.getElem_cons_succ, List.getElem_cons_zero, List.setIfInBounds_toArray, List.set_cons_zero, List.set_cons_succ]
    refine wpAnyH_take (i := 8) (v := ?_) rfl (by kernel_rfl) (by kernel_rfl) (by kernel_rfl) (fun _ _ _ h => h) (Or.inl ⟨by rfl, ?_⟩) (by assumption) ?_
    rotate_left
    · (intro w hSw; (try dsimp only at hSw); simp only [List.getElem_toArray, List.getElem_cons_succ, List.getElem_cons_zero]; go_simp; try with_reducible rfl)
    simp only [Act.put, List.getElem_toArray, List.getElem_cons_succ, List.getElem_cons_zero, List.setIfInBounds_toArray, List.set_cons_zero, List.set_cons_succ]
    refine wpAnyH_ready (rs := [9]) (by kernel_rfl) (by simp) ?_
    refine AllReadyH.cons rfl (fun K hK => ?_) AllReadyH.nil
    simp only [List.getElem_toArray, List.getElem_cons_succ, List.getElem_cons_zero]
    go_simp
    refine hK.out _ _ ?_ (fun hHeld => ?_)
    · trivial
    clear hK K
    try simp only [Act.put, List.setIfInBounds_toArray, List.set_cons_zero, List.set_cons_succ]
    refine wpAnyH_done (by kernel_rfl) ?_ _
    obtain ⟨A, hA⟩ : ∃ A : Array Value, A = #[.int .u8 (o : Nat), .int .u8 (q : Nat), .int .u8 (r : Nat), .int .u8 (s : Nat)] := ⟨_, rfl⟩
    rw [← hA]
    have sA : A.size = 4 := by rw [hA]; rfl
    have oA : Hid (A.all (·.oneCell') = true) := by show _ = _; rw [hA]; exact one4 _ _ _ _
    have HA := hide hA
    have L0 : Hid ((w1.alloc (.cells A 71)).drew.heap[w1.heap.size]? = some (.cells A 71 (0, 0))) := heap_alloc_new _ _
    clear hA ho'
    go_wp2_with (first
      | (refine wpList_load_row rfl 71 _ rfl w1.heap.size rfl 71 A (0, 0) _ L0.out Tryd.underlying71 rfl (by rw [sA]; rfl) ?_)
      | (refine wpList_store_row rfl 71 _ _ rfl (w.heap.size + 1) A rfl rfl 71 #[.int .u8 0, .int .u8 0, .int .u8 0, .int .u8 0] (R1.out _) (by rw [sA]; rfl) (by rw [sA]; rfl) oA.out ?_))
    refine bodyPost_ret (v := .agg A) (results_cell_row rfl _ _ (w.heap.size + 1) 71 A (0, 0) _ rfl (setRow_heap _ _ _ _ _ _ (R1.out _)) Tryd.underlying71 rfl (by rw [sA]; rfl)) rfl ⟨by rw [HA.out], ?_⟩
    exact below_setRow (below_alloc B1.out _).drew (by omega) _

set_option linter.unusedSimpArgs false in
set_option maxRecDepth 100000 in
set_option maxHeartbeats 1000000 in
theorem changed_first6 (v : Value) (a b c d p q r s z o at' k : Nat) (w : World) (hr : at' % 6 = 0) (hk : k + 1 = at' / 6) (hat : at' < 60) (ho : Hid (bits .xor .u8 (p : Nat) (z : Nat) = ((o : Nat) : Int)))
    (kB : Hid (∀ w', Below w.heap.size w w' → Calls Tryd.prog 72 #[v, .agg #[.int .u8 (b : Nat), .int .u8 (c : Nat), .int .u8 (d : Nat), .int .u8 (a : Nat)]] w' fun e w'' => e = .returned (.agg #[.int .u8 (p : Nat), .int .u8 (q : Nat), .int .u8 (r : Nat), .int .u8 (s : Nat)]) ∧ Below w'.heap.size w' w''))
    (kP : Hid (∀ w', Calls Tryd.prog 73 #[.int .u8 2, .int .i64 (k : Nat)] w' fun e w'' => e = .returned (.int .u8 (z : Nat)) ∧ w'' = w')) :
    Calls Tryd.prog 59 #[v, .agg #[.int .u8 (a : Nat), .int .u8 (b : Nat), .int .u8 (c : Nat), .int .u8 (d : Nat)], .int .i64 (at' : Nat), .int .i64 6] w fun e w' => e = .returned (.agg #[.int .u8 (o : Nat), .int .u8 (q : Nat), .int .u8 (r : Nat), .int .u8 (s : Nat)]) ∧ Below w.heap.size w w' := by
  have B0 := hide (below_alloc (below_alloc (Below.refl w.heap.size w) (.cells #[.int .u8 (a : Nat), .int .u8 (b : Nat), .int .u8 (c : Nat), .int .u8 (d : Nat)] 71)) (.cells #[.int .u8 0, .int .u8 0, .int .u8 0, .int .u8 0] 71))
  have K1 := hide (kB.out _ B0.out)
  have ho' := ho.out
  obtain ⟨q1, eq1⟩ : ∃ q1, q1 = at' / 6 := ⟨_, rfl⟩
  have w1 : IntKind.i64.wrap ((at' : Int) / 6) = (q1 : Int) := by rw [IntKind.wrap_i64]; omega
  have w2 : IntKind.i64.wrap ((q1 : Int) - 1) = (k : Int) := by rw [IntKind.wrap_i64]; omega
  go_enter Tryd.func59, Tryd.ntmps59
  go_wp2_with fail
  refine (K1.out).mono ?_
  rintro e w1 ⟨rfl, b1⟩
  have R0 := hide ((b1.block (w.heap.size + 1) (by simp)).trans (heap_alloc2_new _ _ _))
  have B1 := hide (below_two B0.out b1)
  have R1 : Hid (∀ x : Obj, (w1.alloc x).drew.heap[w.heap.size + 1]? = some (.cells #[.int .u8 0, .int .u8 0, .int .u8 0, .int .u8 0] 71 (0, 0))) := fun x =>
    ((below_alloc (Below.refl w1.heap.size w1) x).block _ (Array.getElem?_eq_some_iff.1 R0.out).1).trans R0.out
  clear hk eq1 hr K1 B0 b1 R0
  go_wp2_with fail
  refine wp_region_held_drew (S := fun _ => True) (by kernel_rfl) trivial (fun hHeld => ?_)
  refine wpAnyH_take (i := 0) (v := ?_) rfl (by kernel_rfl) (by kernel_rfl) (by kernel_rfl) (fun _ _ _ h => h) (Or.inl ⟨by rfl, ?_⟩) (by assumption) ?_
  rotate_left
  · (intro w hSw; (try dsimp only at hSw); simp only [List.getElem_toArray, List.getElem_cons_zero]; go_simp; try with_reducible rfl)
  simp only [Act.put, List.getElem_toArray, List.getElem_cons_zero, List.setIfInBounds_toArray, List.set_cons_zero, List.set_cons_succ]
  refine wpAnyH_take (i := 2) (v := ?_) rfl (by kernel_rfl) (by kernel_rfl) (by kernel_rfl) (fun _ _ _ h => h) (Or.inl ⟨by rfl, ?_⟩) (by assumption) ?_
  rotate_left
  · (intro w hSw; (try dsimp only at hSw); simp only [List.getElem_toArray, List.getElem_cons_succ, List.getElem_cons_zero]; go_simp; try with_reducible rfl)
  simp only [Act.put, List.getElem_toArray, List.getElem_cons_succ, List.getElem_cons_zero, List.setIfInBounds_toArray, List.set_cons_zero, List.set_cons_succ]
  refine wpAnyH_take (i := 3) (v := ?_) rfl (by kernel_rfl) (by kernel_rfl) (by kernel_rfl) (fun _ _ _ h => h) (Or.inl ⟨by rfl, ?_⟩) (by assumption) ?_
  rotate_left
  · (intro w hSw; (try dsimp only at hSw); simp only [List.getElem_toArray, List.getElem_cons_succ, List.getElem_cons_zero]; go_simp; try with_reducible rfl)
  simp only [Act.put, List.getElem_toArray, List.getElem_cons_succ, List.getElem_cons_zero, List.setIfInBounds_toArray, List.set_cons_zero, List.set_cons_succ]
  refine wpAnyH_take (i := 4) (v := ?_) rfl (by kernel_rfl) (by kernel_rfl) (by kernel_rfl) (fun _ _ _ h => h) (Or.inl ⟨by rfl, ?_⟩) (by assumption) ?_
  rotate_left
  · (intro w hSw; (try dsimp only at hSw); simp only [List.getElem_toArray, List.getElem_cons_succ, List.getElem_cons_zero]; go_simp; try with_reducible rfl)
  simp only [Act.put, List.getElem_toArray, List.getElem_cons_succ, List.getElem_cons_zero, List.setIfInBounds_toArray, List.set_cons_zero, List.set_cons_succ]
  refine wpAnyH_take (i := 5) (v := ?_) rfl (by kernel_rfl) (by kernel_rfl) (by kernel_rfl) (fun _ _ _ h => h) (Or.inl ⟨by rfl, ?_⟩) (by assumption) ?_
  rotate_left
  · (intro w hSw; (try dsimp only at hSw); simp only [List.getElem_toArray, List.getElem_cons_succ, List.getElem_cons_zero]; go_simp; try with_reducible rfl)
  simp only [Act.put, List.getElem_toArray, List.getElem_cons_succ, List.getElem_cons_zero, List.setIfInBounds_toArray, List.set_cons_zero, List.set_cons_succ]
  refine wpAnyH_ready (rs := [1, 6]) (by kernel_rfl) (by simp) ?_
  refine AllReadyH.cons rfl (fun K hK => ?_) (AllReadyH.cons rfl (fun K hK => ?_) AllReadyH.nil)
  · simp only [List.getElem_toArray, List.getElem_cons_succ, List.getElem_cons_zero]
    go_simp
    refine hK.out _ _ trivial (fun hHeld => ?_)
    clear hK K
    try simp only [Act.put, List.setIfInBounds_toArray, List.set_cons_zero, List.set_cons_succ]
    refine wpAnyH_ready (rs := [6]) (by kernel_rfl) (by simp) ?_
    refine AllReadyH.cons rfl (fun K hK => ?_) AllReadyH.nil
    simp only [List.getElem_toArray, List.getElem_cons_succ, List.getElem_cons_zero]
    go_simp
    refine (kP.out _).mono ?_
    rintro e y9 ⟨rfl, rfl⟩
    refine hK.out _ _ ?_ (fun hHeld => ?_)
    · trivial
    clear hK K
    try simp only [Act.put, List.setIfInBounds_toArray, List.set_cons_zero, List.set_cons_succ]
    refine wpAnyH_take (i := 7) (v := ?_) rfl (by kernel_rfl) (by kernel_rfl) (by kernel_rfl) (fun _ _ _ h => h) (Or.inl ⟨by rfl, ?_⟩) (by assumption) ?_
    rotate_left
    · (intro w hSw; (try dsimp only at hSw); simp only [List.getElem_toArray, List.getElem_cons_succ, List.getElem_cons_zero]; go_simp; try with_reducible rfl)
    simp only [Act.put, List.getElem_toArray, List.getElem_cons_succ, List.getElem_cons_zero, List.setIfInBounds_toArray, List.set_cons_zero, List.set_cons_succ]
    refine wpAnyH_take (i := 8) (v := ?_) rfl (by kernel_rfl) (by kernel_rfl) (by kernel_rfl) (fun _ _ _ h => h) (Or.inl ⟨by rfl, ?_⟩) (by assumption) ?_
    rotate_left
    · (intro w hSw; (try dsimp only at hSw); simp only [List.getElem_toArray, List.getElem_cons_succ, List.getElem_cons_zero]; go_simp; try with_reducible rfl)
    simp only [Act.put, List.getElem_toArray, List.getElem_cons_succ, List.getElem_cons_zero, List.setIfInBounds_toArray, List.set_cons_zero, List.set_cons_succ]
    refine wpAnyH_ready (rs := [9]) (by kernel_rfl) (by simp) ?_
    refine AllReadyH.cons rfl (fun K hK => ?_) AllReadyH.nil
    simp only [List.getElem_toArray, List.getElem_cons_succ, List.getElem_cons_zero]
    go_simp
    refine hK.out _ _ ?_ (fun hHeld => ?_)
    · trivial
    clear hK K
    try simp only [Act.put, List.setIfInBounds_toArray, List.set_cons_zero, List.set_cons_succ]
    refine wpAnyH_done (by kernel_rfl) ?_ _
    obtain ⟨A, hA⟩ : ∃ A : Array Value, A = #[.int .u8 (o : Nat), .int .u8 (q : Nat), .int .u8 (r : Nat), .int .u8 (s : Nat)] := ⟨_, rfl⟩
    rw [← hA]
    have sA : A.size = 4 := by rw [hA]; rfl
    have oA : Hid (A.all (·.oneCell') = true) := by show _ = _; rw [hA]; exact one4 _ _ _ _
    have HA := hide hA
    have L0 : Hid ((w1.alloc (.cells A 71)).drew.heap[w1.heap.size]? = some (.cells A 71 (0, 0))) := heap_alloc_new _ _
    clear hA ho'
    go_wp2_with (first
      | (refine wpList_load_row rfl 71 _ rfl w1.heap.size rfl 71 A (0, 0) _ L0.out Tryd.underlying71 rfl (by rw [sA]; rfl) ?_)
      | (refine wpList_store_row rfl 71 _ _ rfl (w.heap.size + 1) A rfl rfl 71 #[.int .u8 0, .int .u8 0, .int .u8 0, .int .u8 0] (R1.out _) (by rw [sA]; rfl) (by rw [sA]; rfl) oA.out ?_))
    refine bodyPost_ret (v := .agg A) (results_cell_row rfl _ _ (w.heap.size + 1) 71 A (0, 0) _ rfl (setRow_heap _ _ _ _ _ _ (R1.out _)) Tryd.underlying71 rfl (by rw [sA]; rfl)) rfl ⟨by rw [HA.out], ?_⟩
    exact below_setRow (below_alloc B1.out _).drew (by omega) _
  · simp only [List.getElem_toArray, List.getElem_cons_succ, List.getElem_cons_zero]
    go_simp
    refine (kP.out _).mono ?_
    rintro e y9 ⟨rfl, rfl⟩
    refine hK.out _ _ trivial (fun hHeld => ?_)
    clear hK K
    try simp only [Act.put, List.setIfInBounds_toArray, List.set_cons_zero, List.set_cons_succ]
    refine wpAnyH_ready (rs := [1]) (by kernel_rfl) (by simp) ?_
    refine AllReadyH.cons rfl (fun K hK => ?_) AllReadyH.nil
    simp only [List.getElem_toArray, List.getElem_cons_succ, List.getElem_cons_zero]
    go_simp
    refine hK.out _ _ ?_ (fun hHeld => ?_)
    · trivial
    clear hK K
    try simp only [Act.put, List.setIfInBounds_toArray, List.set_cons_zero, List.set_cons_succ]
    refine wpAnyH_take (i := 7) (v := ?_) rfl (by kernel_rfl) (by kernel_rfl) (by kernel_rfl) (fun _ _ _ h => h) (Or.inl ⟨by rfl, ?_⟩) (by assumption) ?_
    rotate_left
    · (intro w hSw; (try dsimp only at hSw); simp only [List.getElem_toArray, List.getElem_cons_succ, List.getElem_cons_zero]; go_simp; try with_reducible rfl)
    simp only [Act.put, List.getElem_toArray, List.getElem_cons_succ, List.getElem_cons_zero, List.setIfInBounds_toArray, List.set_cons_zero, List.set_cons_succ]
    refine wpAnyH_take (i := 8) (v := ?_) rfl (by kernel_rfl) (by kernel_rfl) (by kernel_rfl) (fun _ _ _ h => h) (Or.inl ⟨by rfl, ?_⟩) (by assumption) ?_
    rotate_left
    · (intro w hSw; (try dsimp only at hSw); simp only [List.getElem_toArray, List.getElem_cons_succ, List.getElem_cons_zero]; go_simp; try with_reducible rfl)
    simp only [Act.put, List.getElem_toArray, List.getElem_cons_succ, List.getElem_cons_zero, List.setIfInBounds_toArray, List.set_cons_zero, List.set_cons_succ]
    refine wpAnyH_ready (rs := [9]) (by kernel_rfl) (by simp) ?_
    refine AllReadyH.cons rfl (fun K hK => ?_) AllReadyH.nil
    simp only [List.getElem_toArray, List.getElem_cons_succ, List.getElem_cons_zero]
    go_simp
    refine hK.out _ _ ?_ (fun hHeld => ?_)
    · trivial
    clear hK K
    try simp only [Act.put, List.setIfInBounds_toArray, List.set_cons_zero, List.set_cons_succ]
    refine wpAnyH_done (by kernel_rfl) ?_ _
    obtain ⟨A, hA⟩ : ∃ A : Array Value, A = #[.int .u8 (o : Nat), .int .u8 (q : Nat), .int .u8 (r : Nat), .int .u8 (s : Nat)] := ⟨_, rfl⟩
    rw [← hA]
    have sA : A.size = 4 := by rw [hA]; rfl
    have oA : Hid (A.all (·.oneCell') = true) := by show _ = _; rw [hA]; exact one4 _ _ _ _
    have HA := hide hA
    have L0 : Hid ((w1.alloc (.cells A 71)).drew.heap[w1.heap.size]? = some (.cells A 71 (0, 0))) := heap_alloc_new _ _
    clear hA ho'
    go_wp2_with (first
      | (refine wpList_load_row rfl 71 _ rfl w1.heap.size rfl 71 A (0, 0) _ L0.out Tryd.underlying71 rfl (by rw [sA]; rfl) ?_)
      | (refine wpList_store_row rfl 71 _ _ rfl (w.heap.size + 1) A rfl rfl 71 #[.int .u8 0, .int .u8 0, .int .u8 0, .int .u8 0] (R1.out _) (by rw [sA]; rfl) (by rw [sA]; rfl) oA.out ?_))
    refine bodyPost_ret (v := .agg A) (results_cell_row rfl _ _ (w.heap.size + 1) 71 A (0, 0) _ rfl (setRow_heap _ _ _ _ _ _ (R1.out _)) Tryd.underlying71 rfl (by rw [sA]; rfl)) rfl ⟨by rw [HA.out], ?_⟩
    exact below_setRow (below_alloc B1.out _).drew (by omega) _

set_option linter.unusedSimpArgs false in
set_option maxRecDepth 100000 in
set_option maxHeartbeats 1000000 in
theorem changed_first8 (v : Value) (a b c d p q r s z o at' k : Nat) (w : World) (hr : at' % 8 = 0) (hk : k + 1 = at' / 8) (hat : at' < 60) (ho : Hid (bits .xor .u8 (p : Nat) (z : Nat) = ((o : Nat) : Int)))
    (kB : Hid (∀ w', Below w.heap.size w w' → Calls Tryd.prog 72 #[v, .agg #[.int .u8 (b : Nat), .int .u8 (c : Nat), .int .u8 (d : Nat), .int .u8 (a : Nat)]] w' fun e w'' => e = .returned (.agg #[.int .u8 (p : Nat), .int .u8 (q : Nat), .int .u8 (r : Nat), .int .u8 (s : Nat)]) ∧ Below w'.heap.size w' w''))
    (kP : Hid (∀ w', Calls Tryd.prog 73 #[.int .u8 2, .int .i64 (k : Nat)] w' fun e w'' => e = .returned (.int .u8 (z : Nat)) ∧ w'' = w')) :
    Calls Tryd.prog 59 #[v, .agg #[.int .u8 (a : Nat), .int .u8 (b : Nat), .int .u8 (c : Nat), .int .u8 (d : Nat)], .int .i64 (at' : Nat), .int .i64 8] w fun e w' => e = .returned (.agg #[.int .u8 (o : Nat), .int .u8 (q : Nat), .int .u8 (r : Nat), .int .u8 (s : Nat)]) ∧ Below w.heap.size w w' := by
  have B0 := hide (below_alloc (below_alloc (Below.refl w.heap.size w) (.cells #[.int .u8 (a : Nat), .int .u8 (b : Nat), .int .u8 (c : Nat), .int .u8 (d : Nat)] 71)) (.cells #[.int .u8 0, .int .u8 0, .int .u8 0, .int .u8 0] 71))
  have K1 := hide (kB.out _ B0.out)
  have ho' := ho.out
  obtain ⟨q1, eq1⟩ : ∃ q1, q1 = at' / 8 := ⟨_, rfl⟩
  have w1 : IntKind.i64.wrap ((at' : Int) / 8) = (q1 : Int) := by rw [IntKind.wrap_i64]; omega
  have w2 : IntKind.i64.wrap ((q1 : Int) - 1) = (k : Int) := by rw [IntKind.wrap_i64]; omega
  go_enter Tryd.func59, Tryd.ntmps59
  go_wp2_with fail
  refine (K1.out).mono ?_
  rintro e w1 ⟨rfl, b1⟩
  have R0 := hide ((b1.block (w.heap.size + 1) (by simp)).trans (heap_alloc2_new _ _ _))
  have B1 := hide (below_two B0.out b1)
  have R1 : Hid (∀ x : Obj, (w1.alloc x).drew.heap[w.heap.size + 1]? = some (.cells #[.int .u8 0, .int .u8 0, .int .u8 0, .int .u8 0] 71 (0, 0))) := fun x =>
    ((below_alloc (Below.refl w1.heap.size w1) x).block _ (Array.getElem?_eq_some_iff.1 R0.out).1).trans R0.out
  clear hk eq1 hr K1 B0 b1 R0
  go_wp2_with fail
  refine wp_region_held_drew (S := fun _ => True) (by kernel_rfl) trivial (fun hHeld => ?_)
  refine wpAnyH_take (i := 0) (v := ?_) rfl (by kernel_rfl) (by kernel_rfl) (by kernel_rfl) (fun _ _ _ h => h) (Or.inl ⟨by rfl, ?_⟩) (by assumption) ?_
  rotate_left
  · (intro w hSw; (try dsimp only at hSw); simp only [List.getElem_toArray, List.getElem_cons_zero]; go_simp; try with_reducible rfl)
  simp only [Act.put, List.getElem_toArray, List.getElem_cons_zero, List.setIfInBounds_toArray, List.set_cons_zero, List.set_cons_succ]
  refine wpAnyH_take (i := 2) (v := ?_) rfl (by kernel_rfl) (by kernel_rfl) (by kernel_rfl) (fun _ _ _ h => h) (Or.inl ⟨by rfl, ?_⟩) (by assumption) ?_
  rotate_left
  · (intro w hSw; (try dsimp only at hSw); simp only [List.getElem_toArray, List.getElem_cons_succ, List.getElem_cons_zero]; go_simp; try with_reducible rfl)
  simp only [Act.put, List.getElem_toArray, List.getElem_cons_succ, List.getElem_cons_zero, List.setIfInBounds_toArray, List.set_cons_zero, List.set_cons_succ]
  refine wpAnyH_take (i := 3) (v := ?_) rfl (by kernel_rfl) (by kernel_rfl) (by kernel_rfl) (fun _ _ _ h => h) (Or.inl ⟨by rfl, ?_⟩) (by assumption) ?_
  rotate_left
  · (intro w hSw; (try dsimp only at hSw); simp only [List.getElem_toArray, List.getElem_cons_succ, List.getElem_cons_zero]; go_simp; try with_reducible rfl)
  simp only [Act.put, List.getElem_toArray, List.getElem_cons_succ, List.getElem_cons_zero, List.setIfInBounds_toArray, List.set_cons_zero, List.set_cons_succ]
  refine wpAnyH_take (i := 4) (v := ?_) rfl (by kernel_rfl) (by kernel_rfl) (by kernel_rfl) (fun _ _ _ h => h) (Or.inl ⟨by rfl, ?_⟩) (by assumption) ?_
  rotate_left
  · (intro w hSw; (try dsimp only at hSw); simp only [List.getElem_toArray, List.getElem_cons_succ, List.getElem_cons_zero]; go_simp; try with_reducible rfl)
  simp only [Act.put, List.getElem_toArray, List.getElem_cons_succ, List.getElem_cons_zero, List.setIfInBounds_toArray, List.set_cons_zero, List.set_cons_succ]
  refine wpAnyH_take (i := 5) (v := ?_) rfl (by kernel_rfl) (by kernel_rfl) (by kernel_rfl) (fun _ _ _ h => h) (Or.inl ⟨by rfl, ?_⟩) (by assumption) ?_
  rotate_left
  · (intro w hSw; (try dsimp only at hSw); simp only [List.getElem_toArray, List.getElem_cons_succ, List.getElem_cons_zero]; go_simp; try with_reducible rfl)
  simp only [Act.put, List.getElem_toArray, List.getElem_cons_succ, List.getElem_cons_zero, List.setIfInBounds_toArray, List.set_cons_zero, List.set_cons_succ]
  refine wpAnyH_ready (rs := [1, 6]) (by kernel_rfl) (by simp) ?_
  refine AllReadyH.cons rfl (fun K hK => ?_) (AllReadyH.cons rfl (fun K hK => ?_) AllReadyH.nil)
  · simp only [List.getElem_toArray, List.getElem_cons_succ, List.getElem_cons_zero]
    go_simp
    refine hK.out _ _ trivial (fun hHeld => ?_)
    clear hK K
    try simp only [Act.put, List.setIfInBounds_toArray, List.set_cons_zero, List.set_cons_succ]
    refine wpAnyH_ready (rs := [6]) (by kernel_rfl) (by simp) ?_
    refine AllReadyH.cons rfl (fun K hK => ?_) AllReadyH.nil
    simp only [List.getElem_toArray, List.getElem_cons_succ, List.getElem_cons_zero]
    go_simp
    refine (kP.out _).mono ?_
    rintro e y9 ⟨rfl, rfl⟩
    refine hK.out _ _ ?_ (fun hHeld => ?_)
    · trivial
    clear hK K
    try simp only [Act.put, List.setIfInBounds_toArray, List.set_cons_zero, List.set_cons_succ]
    refine wpAnyH_take (i := 7) (v := ?_) rfl (by kernel_rfl) (by kernel_rfl) (by kernel_rfl) (fun _ _ _ h => h) (Or.inl ⟨by rfl, ?_⟩) (by assumption) ?_
    rotate_left
    · (intro w hSw; (try dsimp only at hSw); simp only [List.getElem_toArray, List.getElem_cons_succ, List.getElem_cons_zero]; go_simp; try with_reducible rfl)
    simp only [Act.put, List.getElem_toArray, List.getElem_cons_succ, List.getElem_cons_zero, List.setIfInBounds_toArray, List.set_cons_zero, List.set_cons_succ]
    refine wpAnyH_take (i := 8) (v := ?_) rfl (by kernel_rfl) (by kernel_rfl) (by kernel_rfl) (fun _ _ _ h => h) (Or.inl ⟨by rfl, ?_⟩) (by assumption) ?_
    rotate_left
    · (intro w hSw; (try dsimp only at hSw); simp only [List.getElem_toArray, List.getElem_cons_succ, List.getElem_cons_zero]; go_simp; try with_reducible rfl)
    simp only [Act.put, List.getElem_toArray, List.getElem_cons_succ, List.getElem_cons_zero, List.setIfInBounds_toArray, List.set_cons_zero, List.set_cons_succ]
    refine wpAnyH_ready (rs := [9]) (by kernel_rfl) (by simp) ?_
    refine AllReadyH.cons rfl (fun K hK => ?_) AllReadyH.nil
    simp only [List.getElem_toArray, List.getElem_cons_succ, List.getElem_cons_zero]
    go_simp
    refine hK.out _ _ ?_ (fun hHeld => ?_)
    · trivial
    clear hK K
    try simp only [Act.put, List.setIfInBounds_toArray, List.set_cons_zero, List.set_cons_succ]
    refine wpAnyH_done (by kernel_rfl) ?_ _
    obtain ⟨A, hA⟩ : ∃ A : Array Value, A = #[.int .u8 (o : Nat), .int .u8 (q : Nat), .int .u8 (r : Nat), .int .u8 (s : Nat)] := ⟨_, rfl⟩
    rw [← hA]
    have sA : A.size = 4 := by rw [hA]; rfl
    have oA : Hid (A.all (·.oneCell') = true) := by show _ = _; rw [hA]; exact one4 _ _ _ _
    have HA := hide hA
    have L0 : Hid ((w1.alloc (.cells A 71)).drew.heap[w1.heap.size]? = some (.cells A 71 (0, 0))) := heap_alloc_new _ _
    clear hA ho'
    go_wp2_with (first
      | (refine wpList_load_row rfl 71 _ rfl w1.heap.size rfl 71 A (0, 0) _ L0.out Tryd.underlying71 rfl (by rw [sA]; rfl) ?_)
      | (refine wpList_store_row rfl 71 _ _ rfl (w.heap.size + 1) A rfl rfl 71 #[.int .u8 0, .int .u8 0, .int .u8 0, .int .u8 0] (R1.out _) (by rw [sA]; rfl) (by rw [sA]; rfl) oA.out ?_))
    refine bodyPost_ret (v := .agg A) (results_cell_row rfl _ _ (w.heap.size + 1) 71 A (0, 0) _ rfl (setRow_heap _ _ _ _ _ _ (R1.out _)) Tryd.underlying71 rfl (by rw [sA]; rfl)) rfl ⟨by rw [HA.out], ?_⟩
    exact below_setRow (below_alloc B1.out _).drew (by omega) _
  · simp only [List.getElem_toArray, List.getElem_cons_succ, List.getElem_cons_zero]
    go_simp
    refine (kP.out _).mono ?_
    rintro e y9 ⟨rfl, rfl⟩
    refine hK.out _ _ trivial (fun hHeld => ?_)
    clear hK K
    try simp only [Act.put, List.setIfInBounds_toArray, List.set_cons_zero, List.set_cons_succ]
    refine wpAnyH_ready (rs := [1]) (by kernel_rfl) (by simp) ?_
    refine AllReadyH.cons rfl (fun K hK => ?_) AllReadyH.nil
    simp only [List.getElem_toArray, List.getElem_cons_succ, List.getElem_cons_zero]
    go_simp
    refine hK.out _ _ ?_ (fun hHeld => ?_)
    · trivial
    clear hK K
    try simp only [Act.put, List.setIfInBounds_toArray, List.set_cons_zero, List.set_cons_succ]
    refine wpAnyH_take (i := 7) (v := ?_) rfl (by kernel_rfl) (by kernel_rfl) (by kernel_rfl) (fun _ _ _ h => h) (Or.inl ⟨by rfl, ?_⟩) (by assumption) ?_
    rotate_left
    · (intro w hSw; (try dsimp only at hSw); simp only [List.getElem_toArray, List.getElem_cons_succ, List.getElem_cons_zero]; go_simp; try with_reducible rfl)
    simp only [Act.put, List.getElem_toArray, List.getElem_cons_succ, List.getElem_cons_zero, List.setIfInBounds_toArray, List.set_cons_zero, List.set_cons_succ]
    refine wpAnyH_take (i := 8) (v := ?_) rfl (by kernel_rfl) (by kernel_rfl) (by kernel_rfl) (fun _ _ _ h => h) (Or.inl ⟨by rfl, ?_⟩) (by assumption) ?_
    rotate_left
    · (intro w hSw; (try dsimp only at hSw); simp only [List.getElem_toArray, List.getElem_cons_succ, List.getElem_cons_zero]; go_simp; try with_reducible rfl)
    simp only [Act.put, List.getElem_toArray, List.getElem_cons_succ, List.getElem_cons_zero, List.setIfInBounds_toArray, List.set_cons_zero, List.set_cons_succ]
    refine wpAnyH_ready (rs := [9]) (by kernel_rfl) (by simp) ?_
    refine AllReadyH.cons rfl (fun K hK => ?_) AllReadyH.nil
    simp only [List.getElem_toArray, List.getElem_cons_succ, List.getElem_cons_zero]
    go_simp
    refine hK.out _ _ ?_ (fun hHeld => ?_)
    · trivial
    clear hK K
    try simp only [Act.put, List.setIfInBounds_toArray, List.set_cons_zero, List.set_cons_succ]
    refine wpAnyH_done (by kernel_rfl) ?_ _
    obtain ⟨A, hA⟩ : ∃ A : Array Value, A = #[.int .u8 (o : Nat), .int .u8 (q : Nat), .int .u8 (r : Nat), .int .u8 (s : Nat)] := ⟨_, rfl⟩
    rw [← hA]
    have sA : A.size = 4 := by rw [hA]; rfl
    have oA : Hid (A.all (·.oneCell') = true) := by show _ = _; rw [hA]; exact one4 _ _ _ _
    have HA := hide hA
    have L0 : Hid ((w1.alloc (.cells A 71)).drew.heap[w1.heap.size]? = some (.cells A 71 (0, 0))) := heap_alloc_new _ _
    clear hA ho'
    go_wp2_with (first
      | (refine wpList_load_row rfl 71 _ rfl w1.heap.size rfl 71 A (0, 0) _ L0.out Tryd.underlying71 rfl (by rw [sA]; rfl) ?_)
      | (refine wpList_store_row rfl 71 _ _ rfl (w.heap.size + 1) A rfl rfl 71 #[.int .u8 0, .int .u8 0, .int .u8 0, .int .u8 0] (R1.out _) (by rw [sA]; rfl) (by rw [sA]; rfl) oA.out ?_))
    refine bodyPost_ret (v := .agg A) (results_cell_row rfl _ _ (w.heap.size + 1) 71 A (0, 0) _ rfl (setRow_heap _ _ _ _ _ _ (R1.out _)) Tryd.underlying71 rfl (by rw [sA]; rfl)) rfl ⟨by rw [HA.out], ?_⟩
    exact below_setRow (below_alloc B1.out _).drew (by omega) _

set_option maxRecDepth 100000 in
set_option maxHeartbeats 1000000 in
theorem changed_mid8 (v : Value) (a b c d p q r s at' : Nat) (w : World) (hr : at' % 8 = 4) (hat : at' < 60)
    (kB : Hid (∀ w', Below w.heap.size w w' → Calls Tryd.prog 72 #[v, .agg #[.int .u8 (a : Nat), .int .u8 (b : Nat), .int .u8 (c : Nat), .int .u8 (d : Nat)]] w' fun e w'' => e = .returned (.agg #[.int .u8 (p : Nat), .int .u8 (q : Nat), .int .u8 (r : Nat), .int .u8 (s : Nat)]) ∧ Below w'.heap.size w' w'')) :
    Calls Tryd.prog 59 #[v, .agg #[.int .u8 (a : Nat), .int .u8 (b : Nat), .int .u8 (c : Nat), .int .u8 (d : Nat)], .int .i64 (at' : Nat), .int .i64 8] w fun e w' => e = .returned (.agg #[.int .u8 (p : Nat), .int .u8 (q : Nat), .int .u8 (r : Nat), .int .u8 (s : Nat)]) ∧ Below w.heap.size w w' := by
  have B0 := hide (below_alloc (below_alloc (Below.refl w.heap.size w) (.cells #[.int .u8 (a : Nat), .int .u8 (b : Nat), .int .u8 (c : Nat), .int .u8 (d : Nat)] 71)) (.cells #[.int .u8 0, .int .u8 0, .int .u8 0, .int .u8 0] 71))
  have K1 := hide (kB.out _ B0.out)
  have h1 : ¬ at' % 8 = 0 := by omega
  obtain ⟨A, hA⟩ : ∃ A : Array Value, A = #[.int .u8 (p : Nat), .int .u8 (q : Nat), .int .u8 (r : Nat), .int .u8 (s : Nat)] := ⟨_, rfl⟩
  rw [← hA] at K1 ⊢
  have sA : A.size = 4 := by rw [hA]; rfl
  have oA : Hid (A.all (·.oneCell') = true) := by show _ = _; rw [hA]; exact one4 _ _ _ _
  clear hA kB
  go_enter Tryd.func59, Tryd.ntmps59
  go_wp2_with fail
  refine (K1.out).mono ?_
  rintro e w1 ⟨rfl, b1⟩
  have R0 := hide ((b1.block (w.heap.size + 1) (by simp)).trans (heap_alloc2_new _ _ _))
  have B1 := hide (below_two B0.out b1)
  clear K1 B0 b1
  go_wp2_with (refine wpList_store_row rfl 71 _ _ rfl (w.heap.size + 1) A rfl rfl 71 #[.int .u8 0, .int .u8 0, .int .u8 0, .int .u8 0] R0.out (by rw [sA]; rfl) (by rw [sA]; rfl) oA.out ?_)
  refine bodyPost_ret (v := .agg A) (results_cell_row rfl _ _ (w.heap.size + 1) 71 A (0, 0) _ rfl (setRow_heap _ _ _ _ _ _ R0.out) Tryd.underlying71 rfl (by rw [sA]; rfl)) rfl ⟨rfl, ?_⟩
  exact below_setRow B1.out (by omega) _
set_option maxRecDepth 100000 in
set_option maxHeartbeats 1000000 in
theorem changed_same4 (v : Value) (a b c d at' : Nat) (w : World) (h1 : ¬ at' % 4 = 0) (hat : at' < 60) :
    Calls Tryd.prog 59 #[v, .agg #[.int .u8 (a : Nat), .int .u8 (b : Nat), .int .u8 (c : Nat), .int .u8 (d : Nat)], .int .i64 (at' : Nat), .int .i64 4] w fun e w' => e = .returned (.agg #[.int .u8 (a : Nat), .int .u8 (b : Nat), .int .u8 (c : Nat), .int .u8 (d : Nat)]) ∧ Below w.heap.size w w' := by
  go_enter Tryd.func59, Tryd.ntmps59
  go_wp2
  simp [bodyPost, results, Tryd.results59, go_sem]
  repeat (first | exact Below.refl _ _ | refine below_alloc ?_ _)
set_option maxRecDepth 100000 in
set_option maxHeartbeats 1000000 in
theorem changed_same6 (v : Value) (a b c d at' : Nat) (w : World) (h1 : ¬ at' % 6 = 0) (hat : at' < 60) :
    Calls Tryd.prog 59 #[v, .agg #[.int .u8 (a : Nat), .int .u8 (b : Nat), .int .u8 (c : Nat), .int .u8 (d : Nat)], .int .i64 (at' : Nat), .int .i64 6] w fun e w' => e = .returned (.agg #[.int .u8 (a : Nat), .int .u8 (b : Nat), .int .u8 (c : Nat), .int .u8 (d : Nat)]) ∧ Below w.heap.size w w' := by
  go_enter Tryd.func59, Tryd.ntmps59
  go_wp2
  simp [bodyPost, results, Tryd.results59, go_sem]
  repeat (first | exact Below.refl _ _ | refine below_alloc ?_ _)
set_option maxRecDepth 100000 in
set_option maxHeartbeats 1000000 in
theorem changed_same8 (v : Value) (a b c d at' : Nat) (w : World) (h1 : ¬ at' % 8 = 0) (h2 : ¬ at' % 8 = 4) (hat : at' < 60) :
    Calls Tryd.prog 59 #[v, .agg #[.int .u8 (a : Nat), .int .u8 (b : Nat), .int .u8 (c : Nat), .int .u8 (d : Nat)], .int .i64 (at' : Nat), .int .i64 8] w fun e w' => e = .returned (.agg #[.int .u8 (a : Nat), .int .u8 (b : Nat), .int .u8 (c : Nat), .int .u8 (d : Nat)]) ∧ Below w.heap.size w w' := by
  go_enter Tryd.func59, Tryd.ntmps59
  go_wp2
  simp [bodyPost, results, Tryd.results59, go_sem]
  repeat (first | exact Below.refl _ _ | refine below_alloc ?_ _)
end Go.Proofs.YtlkihbmkekadeaaDoor
