/- Own: the contracts of boxed of layer 4; the contract of changed of layer 4; a key's words as bytes; parts of rows, stored and read; the contract of expanded of layer 4; expanded of layer 4, by its contract; roundsOf of layer 4 (no statement is proved here). -/
import Derived.Test.YtdfbcdgneboilaaDoorOT2
namespace Go.Proofs.YtdfbcdgneboilaaDoor
open Go.ChangeShapes Go.WideShapes Go.ChangeAt Go.RowKit
set_option maxRecDepth 20000

theorem one4 (a b c d : Nat) : (#[Value.int .u8 (a : Nat), .int .u8 (b : Nat), .int .u8 (c : Nat), .int .u8 (d : Nat)] : Array Value).all (·.oneCell') = true := bc_one 4 fun i => match i with | 0 => a | 1 => b | 2 => c | _ => d
/-- A word, as a value. -/
def wdV (a b c d : Nat) : Value := .agg #[.int .u8 (a : Nat), .int .u8 (b : Nat), .int .u8 (c : Nat), .int .u8 (d : Nat)]
set_option maxRecDepth 100000 in
set_option maxHeartbeats 4000000 in
theorem boxed_core (v : Value) (a b c d a' b' c' d' : Nat) (w : World)
    (ka : Hid (∀ w', Below w.heap.size w w' → Calls Tryd.prog 75 #[v, .int .u8 (a : Nat)] w' fun e w'' => e = .returned (.int .u8 (a' : Nat)) ∧ w'' = w'))
    (kb : Hid (∀ w', Below w.heap.size w w' → Calls Tryd.prog 75 #[v, .int .u8 (b : Nat)] w' fun e w'' => e = .returned (.int .u8 (b' : Nat)) ∧ w'' = w'))
    (kc : Hid (∀ w', Below w.heap.size w w' → Calls Tryd.prog 75 #[v, .int .u8 (c : Nat)] w' fun e w'' => e = .returned (.int .u8 (c' : Nat)) ∧ w'' = w'))
    (kd : Hid (∀ w', Below w.heap.size w w' → Calls Tryd.prog 75 #[v, .int .u8 (d : Nat)] w' fun e w'' => e = .returned (.int .u8 (d' : Nat)) ∧ w'' = w')) :
    Calls Tryd.prog 67 #[v, .agg #[.int .u8 (a : Nat), .int .u8 (b : Nat), .int .u8 (c : Nat), .int .u8 (d : Nat)]] w fun e w' => e = .returned (.agg #[.int .u8 (a' : Nat), .int .u8 (b' : Nat), .int .u8 (c' : Nat), .int .u8 (d' : Nat)]) ∧ Below w.heap.size w w' := by
  have x0 : ∀ w, (Instr.index 62 (.agg #[.int .u8 (a : Nat), .int .u8 (b : Nat), .int .u8 (c : Nat), .int .u8 (d : Nat)]) (.int .i64 0)).run Tryd.prog w = .ok (.int .u8 (a : Nat)) w := fun w => rfl
  have x1 : ∀ w, (Instr.index 62 (.agg #[.int .u8 (a : Nat), .int .u8 (b : Nat), .int .u8 (c : Nat), .int .u8 (d : Nat)]) (.int .i64 1)).run Tryd.prog w = .ok (.int .u8 (b : Nat)) w := fun w => rfl
  have x2 : ∀ w, (Instr.index 62 (.agg #[.int .u8 (a : Nat), .int .u8 (b : Nat), .int .u8 (c : Nat), .int .u8 (d : Nat)]) (.int .i64 2)).run Tryd.prog w = .ok (.int .u8 (c : Nat)) w := fun w => rfl
  have x3 : ∀ w, (Instr.index 62 (.agg #[.int .u8 (a : Nat), .int .u8 (b : Nat), .int .u8 (c : Nat), .int .u8 (d : Nat)]) (.int .i64 3)).run Tryd.prog w = .ok (.int .u8 (d : Nat)) w := fun w => rfl
  go_enter Tryd.func67, Tryd.ntmps67
  go_wp2
  refine wp_loop_rounds 5 ?_
  rw [rounds_succ]
  go_wp2_with fail
  refine (ka.out _ ?h0).mono ?_
  case h0 =>
    clear x0 x1 x2 x3
    repeat (first | exact Below.refl _ _ | refine below_alloc ?_ _ | refine Below.setCell ?_ (by simp) _)
  rintro e y0 ⟨rfl, rfl⟩
  go_wp2_with fail
  rw [rounds_succ]
  go_wp2_with fail
  refine (kb.out _ ?h1).mono ?_
  case h1 =>
    clear x0 x1 x2 x3
    repeat (first | exact Below.refl _ _ | refine below_alloc ?_ _ | refine Below.setCell ?_ (by simp) _)
  rintro e y1 ⟨rfl, rfl⟩
  go_wp2_with fail
  rw [rounds_succ]
  go_wp2_with fail
  refine (kc.out _ ?h2).mono ?_
  case h2 =>
    clear x0 x1 x2 x3
    repeat (first | exact Below.refl _ _ | refine below_alloc ?_ _ | refine Below.setCell ?_ (by simp) _)
  rintro e y2 ⟨rfl, rfl⟩
  go_wp2_with fail
  rw [rounds_succ]
  go_wp2_with fail
  refine (kd.out _ ?h3).mono ?_
  case h3 =>
    clear x0 x1 x2 x3
    repeat (first | exact Below.refl _ _ | refine below_alloc ?_ _ | refine Below.setCell ?_ (by simp) _)
  rintro e y3 ⟨rfl, rfl⟩
  go_wp2_with fail
  rw [rounds_succ]
  go_wp2
  simp [bodyPost, results, Tryd.results67, go_sem]
  repeat (first | exact Below.refl _ _ | refine below_alloc ?_ _)
theorem boxed_any (g a b c d : Nat) (ha : a < 256) (hb : b < 256) (hc : c < 256) (hd : d < 256) (w : World) (ht : IsTab w g) : Calls Tryd.prog 67 #[.pointer (some ⟨g, 0, none⟩), wdV a b c d] w fun e w' => e = .returned (wdV (sbox a) (sbox b) (sbox c) (sbox d)) ∧ Below w.heap.size w w' :=
  boxed_core _ a b c d _ _ _ _ w (fun w' hw => box_any g a ha w' (ht.later hw)) (fun w' hw => box_any g b hb w' (ht.later hw)) (fun w' hw => box_any g c hc w' (ht.later hw)) (fun w' hw => box_any g d hd w' (ht.later hw))
end Go.Proofs.YtdfbcdgneboilaaDoor
namespace Go.Proofs.YtdfbcdgneboilaaDoor
open Go.ChangeShapes Go.WideShapes Go.ChangeAt Go.RowKit
set_option maxRecDepth 20000

set_option linter.unusedSimpArgs false in
set_option maxRecDepth 100000 in
set_option maxHeartbeats 1000000 in
theorem changed_first4 (v : Value) (a b c d p q r s z o at' k : Nat) (w : World) (hr : at' % 4 = 0) (hk : k + 1 = at' / 4) (hat : at' < 60) (ho : Hid (bits .xor .u8 (p : Nat) (z : Nat) = ((o : Nat) : Int)))
    (kB : Hid (∀ w', Below w.heap.size w w' → Calls Tryd.prog 67 #[v, .agg #[.int .u8 (b : Nat), .int .u8 (c : Nat), .int .u8 (d : Nat), .int .u8 (a : Nat)]] w' fun e w'' => e = .returned (.agg #[.int .u8 (p : Nat), .int .u8 (q : Nat), .int .u8 (r : Nat), .int .u8 (s : Nat)]) ∧ Below w'.heap.size w' w''))
    (kP : Hid (∀ w', Calls Tryd.prog 62 #[.int .u8 2, .int .i64 (k : Nat)] w' fun e w'' => e = .returned (.int .u8 (z : Nat)) ∧ w'' = w')) :
    Calls Tryd.prog 49 #[v, .agg #[.int .u8 (a : Nat), .int .u8 (b : Nat), .int .u8 (c : Nat), .int .u8 (d : Nat)], .int .i64 (at' : Nat), .int .i64 4] w fun e w' => e = .returned (.agg #[.int .u8 (o : Nat), .int .u8 (q : Nat), .int .u8 (r : Nat), .int .u8 (s : Nat)]) ∧ Below w.heap.size w w' := by
  have B0 := hide (below_alloc (below_alloc (Below.refl w.heap.size w) (.cells #[.int .u8 (a : Nat), .int .u8 (b : Nat), .int .u8 (c : Nat), .int .u8 (d : Nat)] 62)) (.cells #[.int .u8 0, .int .u8 0, .int .u8 0, .int .u8 0] 62))
  have K1 := hide (kB.out _ B0.out)
  have ho' := ho.out
  obtain ⟨q1, eq1⟩ : ∃ q1, q1 = at' / 4 := ⟨_, rfl⟩
  have w1 : IntKind.i64.wrap ((at' : Int) / 4) = (q1 : Int) := by rw [IntKind.wrap_i64]; omega
  have w2 : IntKind.i64.wrap ((q1 : Int) - 1) = (k : Int) := by rw [IntKind.wrap_i64]; omega
  go_enter Tryd.func49, Tryd.ntmps49
  go_wp2_with fail
  refine (K1.out).mono ?_
  rintro e w1 ⟨rfl, b1⟩
  have R0 := hide ((b1.block (w.heap.size + 1) (by simp)).trans (heap_alloc2_new _ _ _))
  have B1 := hide (below_two B0.out b1)
  have R1 : Hid (∀ x : Obj, (w1.alloc x).drew.heap[w.heap.size + 1]? = some (.cells #[.int .u8 0, .int .u8 0, .int .u8 0, .int .u8 0] 62 (0, 0))) := fun x =>
    ((below_alloc (Below.refl w1.heap.size w1) x).block _ (Array.getElem?_eq_some_iff.1 R0.out).1).trans R0.out
  clear hk eq1 hr K1 B0 b1 R0
  go_wp2_with fail
  refine wp_region_held_drew (S := fun _ => True) (by kernel_rfl) trivial (fun hHeld => ?_)
  refine wpAnyH_take (i := 0) (v := ?_) rfl (by kernel_rfl) (by kernel_rfl) (by kernel_rfl) (fun _ _ _ h => h) (Or.inl ⟨by rfl, ?_⟩) (by assumption) ?_
  rotate_left
  · (intro w hSw; (try dsimp only at hSw); simp only [List.getElem_toArray, List.getElem_cons_zero]; go_simp; try with_reducible rfl)
  simp only [Act.put, List.getElem_toArray, List.getElem_cons_zero, List.setIfInBounds_toArray, List.set_cons_zero, List.set_cons_succ]
  refine wpAnyH_take (i := 2) (v := ?_) rfl (by kernel_rfl) (by kernel_rfl) (by kernel_rfl) (fun _ _ _ h => h) (Or.inl ⟨by rfl, ?_⟩) (by assumption) ?_
  rotate_left
  · (intro w hSw; (try dsimp only at hSw); simp only [List.getElem_toArray, List.getElem_cons_succ, List.getElem_cons_zero]; go_simp; try with_reducible rfl)
  simp only [Act.put, List.getElem_toArray, List.getElem_cons_succ, List.getElem_cons_zero, List.setIfInBounds_toArray, List.set_cons_zero, List.set_cons_succ]
  refine wpAnyH_take (i := 3) (v := ?_) rfl (by kernel_rfl) (by kernel_rfl) (by kernel_rfl) (fun _ _ _ h => h) (Or.inl ⟨by rfl, ?_⟩) (by assumption) ?_
  rotate_left
  · (intro w hSw; (try dsimp only at hSw); simp only [List.getElem_toArray, List.getElem_cons_succ, List.getElem_cons_zero]; go_simp; try with_reducible rfl)
  simp only [Act.put, List.getElem_toArray, List.getElem_cons_succ, List.getElem_cons_zero, List.setIfInBounds_toArray, List.set_cons_zero, List.set_cons_succ]
  refine wpAnyH_take (i := 4) (v := ?_) rfl (by kernel_rfl) (by kernel_rfl) (by kernel_rfl) (fun _ _ _ h => h) (Or.inl ⟨by rfl, ?_⟩) (by assumption) ?_
  rotate_left
  · (intro w hSw; (try dsimp only at hSw); simp only [List.getElem_toArray, List.getElem_cons_succ, List.getElem_cons_zero]; go_simp; try with_reducible rfl)
  simp only [Act.put, List.getElem_toArray, List.getElem_cons_succ, List.getElem_cons_zero, List.setIfInBounds_toArray, List.set_cons_zero, List.set_cons_succ]
  refine wpAnyH_take (i := 5) (v := ?_) rfl (by kernel_rfl) (by kernel_rfl) (by kernel_rfl) (fun _ _ _ h => h) (Or.inl ⟨by rfl, ?_⟩) (by assumption) ?_
  rotate_left
  · (intro w hSw; (try dsimp only at hSw); simp only [List.getElem_toArray, List.getElem_cons_succ, List.getElem_cons_zero]; go_simp; try with_reducible rfl)
  simp only [Act.put, List.getElem_toArray, List.getElem_cons_succ, List.getElem_cons_zero, List.setIfInBounds_toArray, List.set_cons_zero, List.set_cons_succ]
  refine wpAnyH_ready (rs := [1, 6]) (by kernel_rfl) (by simp) ?_
  refine AllReadyH.cons rfl (fun K hK => ?_) (AllReadyH.cons rfl (fun K hK => ?_) AllReadyH.nil)
  · simp only [List.getElem_toArray, List.getElem_cons_succ, List.getElem_cons_zero]
    go_simp
    refine hK.out _ _ trivial (fun hHeld => ?_)
    clear hK K
    try simp only [Act.put, List.setIfInBounds_toArray, List.set_cons_zero, List.set_cons_succ]
    refine wpAnyH_ready (rs := [6]) (by kernel_rfl) (by simp) ?_
    refine AllReadyH.cons rfl (fun K hK => ?_) AllReadyH.nil
    simp only [List.getElem_toArray, List.getElem_cons_succ, List.getElem_cons_zero]
    go_simp
    refine (kP.out _).mono ?_
    rintro e y9 ⟨rfl, rfl⟩
    refine hK.out _ _ ?_ (fun hHeld => ?_)
    · trivial
    clear hK K
    try simp only [Act.put, List.setIfInBounds_toArray, List.set_cons_zero, List.set_cons_succ]
    refine wpAnyH_take (i := 7) (v := ?_) rfl (by kernel_rfl) (by kernel_rfl) (by kernel_rfl) (fun _ _ _ h => h) (Or.inl ⟨by rfl, ?_⟩) (by assumption) ?_
    rotate_left
    · (intro w hSw; (try dsimp only at hSw); simp only [List.getElem_toArray, List.getElem_cons_succ, List.getElem_cons_zero]; go_simp; try with_reducible rfl)
    simp only [Act.put, List.getElem_toArray, List.getElem_cons_succ, List.getElem_cons_zero, List.setIfInBounds_toArray, List.set_cons_zero, List.set_cons_succ]
    refine wpAnyH_take (i := 8) (v := ?_) rfl (by kernel_rfl) (by kernel_rfl) (by kernel_rfl) (fun _ _ _ h => h) (Or.inl ⟨by rfl, ?_⟩) (by assumption) ?_
    rotate_left
    · (intro w hSw; (try dsimp only at hSw); simp only [List.getElem_toArray, List.getElem_cons_succ, List.getElem_cons_zero]; go_simp; try with_reducible rfl)
    simp only [Act.put, List.getElem_toArray, List.getElem_cons_succ, List.getElem_cons_zero, List.setIfInBounds_toArray, List.set_cons_zero, List.set_cons_succ]
    refine wpAnyH_ready (rs := [9]) (by kernel_rfl) (by simp) ?_
    refine AllReadyH.cons rfl (fun K hK => ?_) AllReadyH.nil
    simp only [List.getElem_toArray, List.getElem_cons_succ, List.getElem_cons_zero]
    go_simp
    refine hK.out _ _ ?_ (fun hHeld => ?_)
    · trivial
    clear hK K
    try simp only [Act.put, List.setIfInBounds_toArray, List.set_cons_zero, List.set_cons_succ]
    refine wpAnyH_done (by kernel_rfl) ?_ _
    obtain ⟨A, hA⟩ : ∃ A : Array Value, A = #[.int .u8 (o : Nat), .int .u8 (q : Nat), .int .u8 (r : Nat), .int .u8 (s : Nat)] := ⟨_, rfl⟩
    rw [← hA]
    have sA : A.size = 4 := by rw [hA]; rfl
    have oA : Hid (A.all (·.oneCell') = true) := by show _ = _; rw [hA]; exact one4 _ _ _ _
    have HA := hide hA
    have L0 : Hid ((w1.alloc (.cells A 62)).drew.heap[w1.heap.size]? = some (.cells A 62 (0, 0))) := heap_alloc_new _ _
    clear hA ho'
    go_wp2_with (first
      | (refine wpList_load_row rfl 62 _ rfl w1.heap.size rfl 62 A (0, 0) _ L0.out Tryd.underlying62 rfl (by rw [sA]; rfl) ?_)
      | (refine wpList_store_row rfl 62 _ _ rfl (w.heap.size + 1) A rfl rfl 62 #[.int .u8 0, .int .u8 0, .int .u8 0, .int .u8 0] (R1.out _) (by rw [sA]; rfl) (by rw [sA]; rfl) oA.out ?_))
    refine bodyPost_ret (v := .agg A) (results_cell_row rfl _ _ (w.heap.size + 1) 62 A (0, 0) _ rfl (setRow_heap _ _ _ _ _ _ (R1.out _)) Tryd.underlying62 rfl (by rw [sA]; rfl)) rfl ⟨by rw [HA.out], ?_⟩
    exact below_setRow (below_alloc B1.out _).drew (by omega) _
  · simp only [List.getElem_toArray, List.getElem_cons_succ, List.getElem_cons_zero]
    go_simp
    refine (kP.out _).mono ?_
    rintro e y9 ⟨rfl, rfl⟩
    refine hK.out _ _ trivial (fun hHeld => ?_)
    clear hK K
    try simp only [Act.put, List.setIfInBounds_toArray, List.set_cons_zero, List.set_cons_succ]
    refine wpAnyH_ready (rs := [1]) (by kernel_rfl) (by simp) ?_
    refine AllReadyH.cons rfl (fun K hK => ?_) AllReadyH.nil
    simp only [List.getElem_toArray, List.getElem_cons_succ, List.getElem_cons_zero]
    go_simp
    refine hK.out _ _ ?_ (fun hHeld => ?_)
    · trivial
    clear hK K
    try simp only [Act.put, List.setIfInBounds_toArray, List.set_cons_zero, List.set_cons_succ]
    refine wpAnyH_take (i := 7) (v := ?_) rfl (by kernel_rfl) (by kernel_rfl) (by kernel_rfl) (fun _ _ _ h => h) (Or.inl ⟨by rfl, ?_⟩) (by assumption) ?_
    rotate_left
    · (intro w hSw; (try dsimp only at hSw); simp only [List.getElem_toArray, List.getElem_cons_succ, List.getElem_cons_zero]; go_simp; try with_reducible rfl)
    simp only [Act.put, List.getElem_toArray, List.getElem_cons_succ, List.getElem_cons_zero, List.setIfInBounds_toArray, List.set_cons_zero, List.set_cons_succ]
    refine wpAnyH_take (i := 8) (v := ?_) rfl (by kernel_rfl) (by kernel_rfl) (by kernel_rfl) (fun _ _ _ h => h) (Or.inl ⟨by rfl, ?_⟩) (by assumption) ?_
    rotate_left
    · (intro w hSw; (try dsimp only at hSw); simp only [List.getElem_toArray, List.getElem_cons_succ, List.getElem_cons_zero]; go_simp; try with_reducible rfl)
    simp only [Act.put, List.getElem_toArray, List.getElem_cons_succ, List.getElem_cons_zero, List.setIfInBounds_toArray, List.set_cons_zero, List.set_cons_succ]
    refine wpAnyH_ready (rs := [9]) (by kernel_rfl) (by simp) ?_
    refine AllReadyH.cons rfl (fun K hK => ?_) AllReadyH.nil
    simp only [List.getElem_toArray, List.getElem_cons_succ, List.getElem_cons_zero]
    go_simp
    refine hK.out _ _ ?_ (fun hHeld => ?_)
    · trivial
    clear hK K
    try simp only [Act.put, List.setIfInBounds_toArray, List.set_cons_zero, List.set_cons_succ]
    refine wpAnyH_done (by kernel_rfl) ?_ _
    obtain ⟨A, hA⟩ : ∃ A : Array Value, A = #[.int .u8 (o : Nat), .int .u8 (q : Nat), .int .u8 (r : Nat), .int .u8 (s : Nat)] := ⟨_, rfl⟩
    rw [← hA]
    have sA : A.size = 4 := by rw [hA]; rfl
    have oA : Hid (A.all (·.oneCell') = true) := by show _ = _; rw [hA]; exact one4 _ _ _ _
    have HA := hide hA
    have L0 : Hid ((w1.alloc (.cells A 62)).drew.heap[w1.heap.size]? = some (.cells A 62 (0, 0))) := heap_alloc_new _ _
    clear hA ho'
    go_wp2_with (first
      | (refine wpList_load_row rfl 62 _ rfl w1.heap.size rfl 62 A (0, 0) _ L0.out Tryd.underlying62 rfl (by rw [sA]; rfl) ?_)
      | (refine wpList_store_row rfl 62 _ _ rfl (w.heap.size + 1) A rfl rfl 62 #[.int .u8 0, .int .u8 0, .int .u8 0, .int .u8 0] (R1.out _) (by rw [sA]; rfl) (by rw [sA]; rfl) oA.out ?_))
    refine bodyPost_ret (v := .agg A) (results_cell_row rfl _ _ (w.heap.size + 1) 62 A (0, 0) _ rfl (setRow_heap _ _ _ _ _ _ (R1.out _)) Tryd.underlying62 rfl (by rw [sA]; rfl)) rfl ⟨by rw [HA.out], ?_⟩
    exact below_setRow (below_alloc B1.out _).drew (by omega) _

set_option linter.unusedSimpArgs false in
set_option maxRecDepth 100000 in
set_option maxHeartbeats 1000000 in
theorem changed_first6 (v : Value) (a b c d p q r s z o at' k : Nat) (w : World) (hr : at' % 6 = 0) (hk : k + 1 = at' / 6) (hat : at' < 60) (ho : Hid (bits .xor .u8 (p : Nat) (z : Nat) = ((o : Nat) : Int)))
    (kB : Hid (∀ w', Below w.heap.size w w' → Calls Tryd.prog 67 #[v, .agg #[.int .u8 (b : Nat), .int .u8 (c : Nat), .int .u8 (d : Nat), .int .u8 (a : Nat)]] w' fun e w'' => e = .returned (.agg #[.int .u8 (p : Nat), .int .u8 (q : Nat), .int .u8 (r : Nat), .int .u8 (s : Nat)]) ∧ Below w'.heap.size w' w''))
    (kP : Hid (∀ w', Calls Tryd.prog 62 #[.int .u8 2, .int .i64 (k : Nat)] w' fun e w'' => e = .returned (.int .u8 (z : Nat)) ∧ w'' = w')) :
    Calls Tryd.prog 49 #[v, .agg #[.int .u8 (a : Nat), .int .u8 (b : Nat), .int .u8 (c : Nat), .int .u8 (d : Nat)], .int .i64 (at' : Nat), .int .i64 6] w fun e w' => e = .returned (.agg #[.int .u8 (o : Nat), .int .u8 (q : Nat), .int .u8 (r : Nat), .int .u8 (s : Nat)]) ∧ Below w.heap.size w w' := by
  have B0 := hide (below_alloc (below_alloc (Below.refl w.heap.size w) (.cells #[.int .u8 (a : Nat), .int .u8 (b : Nat), .int .u8 (c : Nat), .int .u8 (d : Nat)] 62)) (.cells #[.int .u8 0, .int .u8 0, .int .u8 0, .int .u8 0] 62))
  have K1 := hide (kB.out _ B0.out)
  have ho' := ho.out
  obtain ⟨q1, eq1⟩ : ∃ q1, q1 = at' / 6 := ⟨_, rfl⟩
  have w1 : IntKind.i64.wrap ((at' : Int) / 6) = (q1 : Int) := by rw [IntKind.wrap_i64]; omega
  have w2 : IntKind.i64.wrap ((q1 : Int) - 1) = (k : Int) := by rw [IntKind.wrap_i64]; omega
  go_enter Tryd.func49, Tryd.ntmps49
  go_wp2_with fail
  refine (K1.out).mono ?_
  rintro e w1 ⟨rfl, b1⟩
  have R0 := hide ((b1.block (w.heap.size + 1) (by simp)).trans (heap_alloc2_new _ _ _))
  have B1 := hide (below_two B0.out b1)
  have R1 : Hid (∀ x : Obj, (w1.alloc x).drew.heap[w.heap.size + 1]? = some (.cells #[.int .u8 0, .int .u8 0, .int .u8 0, .int .u8 0] 62 (0, 0))) := fun x =>
    ((below_alloc (Below.refl w1.heap.size w1) x).block _ (Array.getElem?_eq_some_iff.1 R0.out).1).trans R0.out
  clear hk eq1 hr K1 B0 b1 R0
  go_wp2_with fail
  refine wp_region_held_drew (S := fun _ => True) (by kernel_rfl) trivial (fun hHeld => ?_)
  refine wpAnyH_take (i := 0) (v := ?_) rfl (by kernel_rfl) (by kernel_rfl) (by kernel_rfl) (fun _ _ _ h => h) (Or.inl ⟨by rfl, ?_⟩) (by assumption) ?_
  rotate_left
  · (intro w hSw; (try dsimp only at hSw); simp only [List.getElem_toArray, List.getElem_cons_zero]; go_simp; try with_reducible rfl)
  simp only [Act.put, List.getElem_toArray, List.getElem_cons_zero, List.setIfInBounds_toArray, List.set_cons_zero, List.set_cons_succ]
  refine wpAnyH_take (i := 2) (v := ?_) rfl (by kernel_rfl) (by kernel_rfl) (by kernel_rfl) (fun _ _ _ h => h) (Or.inl ⟨by rfl, ?_⟩) (by assumption) ?_
  rotate_left
  · (intro w hSw; (try dsimp only at hSw); simp only [List.getElem_toArray, List.getElem_cons_succ, List.getElem_cons_zero]; go_simp; try with_reducible rfl)
  simp only [Act.put, List.getElem_toArray, List.getElem_cons_succ, List.getElem_cons_zero, List.setIfInBounds_toArray, List.set_cons_zero, List.set_cons_succ]
  refine wpAnyH_take (i := 3) (v := ?_) rfl (by kernel_rfl) (by kernel_rfl) (by kernel_rfl) (fun _ _ _ h => h) (Or.inl ⟨by rfl, ?_⟩) (by assumption) ?_
  rotate_left
  · (intro w hSw; (try dsimp only at hSw); simp only [List.getElem_toArray, List.getElem_cons_succ, List.getElem_cons_zero]; go_simp; try with_reducible rfl)
  simp only [Act.put, List.getElem_toArray, List.getElem_cons_succ, List.getElem_cons_zero, List.setIfInBounds_toArray, List.set_cons_zero, List.set_cons_succ]
  refine wpAnyH_take (i := 4) (v := ?_) rfl (by kernel_rfl) (by kernel_rfl) (by kernel_rfl) (fun _ _ _ h => h) (Or.inl ⟨by rfl, ?_⟩) (by assumption) ?_
  rotate_left
  · (intro w hSw; (try dsimp only at hSw); simp only [List.getElem_toArray, List.getElem_cons_succ, List.getElem_cons_zero]; go_simp; try with_reducible rfl)
  simp only [Act.put, List.getElem_toArray, List.getElem_cons_succ, List.getElem_cons_zero, List.setIfInBounds_toArray, List.set_cons_zero, List.set_cons_succ]
  refine wpAnyH_take (i := 5) (v := ?_) rfl (by kernel_rfl) (by kernel_rfl) (by kernel_rfl) (fun _ _ _ h => h) (Or.inl ⟨by rfl, ?_⟩) (by assumption) ?_
  rotate_left
  · (intro w hSw; (try dsimp only at hSw); simp only [List.getElem_toArray, List.getElem_cons_succ, List.getElem_cons_zero]; go_simp; try with_reducible rfl)
  simp only [Act.put, List.getElem_toArray, List.getElem_cons_succ, List.getElem_cons_zero, List.setIfInBounds_toArray, List.set_cons_zero, List.set_cons_succ]
  refine wpAnyH_ready (rs := [1, 6]) (by kernel_rfl) (by simp) ?_
  refine AllReadyH.cons rfl (fun K hK => ?_) (AllReadyH.cons rfl (fun K hK => ?_) AllReadyH.nil)
  · simp only [List.getElem_toArray, List.getElem_cons_succ, List.getElem_cons_zero]
    go_simp
    refine hK.out _ _ trivial (fun hHeld => ?_)
    clear hK K
    try simp only [Act.put, List.setIfInBounds_toArray, List.set_cons_zero, List.set_cons_succ]
    refine wpAnyH_ready (rs := [6]) (by kernel_rfl) (by simp) ?_
    refine AllReadyH.cons rfl (fun K hK => ?_) AllReadyH.nil
    simp only [List.getElem_toArray, List.getElem_cons_succ, List.getElem_cons_zero]
    go_simp
    refine (kP.out _).mono ?_
    rintro e y9 ⟨rfl, rfl⟩
    refine hK.out _ _ ?_ (fun hHeld => ?_)
    · trivial
    clear hK K
    try simp only [Act.put, List.setIfInBounds_toArray, List.set_cons_zero, List.set_cons_succ]
    refine wpAnyH_take (i := 7) (v := ?_) rfl (by kernel_rfl) (by kernel_rfl) (by kernel_rfl) (fun _ _ _ h => h) (Or.inl ⟨by rfl, ?_⟩) (by assumption) ?_
    rotate_left
    · (intro w hSw; (try dsimp only at hSw); simp only [List.getElem_toArray, List.getElem_cons_succ, List.getElem_cons_zero]; go_simp; try with_reducible rfl)
    simp only [Act.put, List.getElem_toArray, List.getElem_cons_succ, List.getElem_cons_zero, List.setIfInBounds_toArray, List.set_cons_zero, List.set_cons_succ]
    refine wpAnyH_take (i := 8) (v := ?_) rfl (by kernel_rfl) (by kernel_rfl) (by kernel_rfl) (fun _ _ _ h => h) (Or.inl ⟨by rfl, ?_⟩) (by assumption) ?_
    rotate_left
    · (intro w hSw; (try dsimp only at hSw); simp only [List.getElem_toArray, List.getElem_cons_succ, List.getElem_cons_zero]; go_simp; try with_reducible rfl)
    simp only [Act.put, List.getElem_toArray, List.getElem_cons_succ, List.getElem_cons_zero, List.setIfInBounds_toArray, List.set_cons_zero, List.set_cons_succ]
    refine wpAnyH_ready (rs := [9]) (by kernel_rfl) (by simp) ?_
    refine AllReadyH.cons rfl (fun K hK => ?_) AllReadyH.nil
    simp only [List.getElem_toArray, List.getElem_cons_succ, List.getElem_cons_zero]
    go_simp
    refine hK.out _ _ ?_ (fun hHeld => ?_)
    · trivial
    clear hK K
    try simp only [Act.put, List.setIfInBounds_toArray, List.set_cons_zero, List.set_cons_succ]
    refine wpAnyH_done (by kernel_rfl) ?_ _
    obtain ⟨A, hA⟩ : ∃ A : Array Value, A = #[.int .u8 (o : Nat), .int .u8 (q : Nat), .int .u8 (r : Nat), .int .u8 (s : Nat)] := ⟨_, rfl⟩
    rw [← hA]
    have sA : A.size = 4 := by rw [hA]; rfl
    have oA : Hid (A.all (·.oneCell') = true) := by show _ = _; rw [hA]; exact one4 _ _ _ _
    have HA := hide hA
    have L0 : Hid ((w1.alloc (.cells A 62)).drew.heap[w1.heap.size]? = some (.cells A 62 (0, 0))) := heap_alloc_new _ _
    clear hA ho'
    go_wp2_with (first
      | (refine wpList_load_row rfl 62 _ rfl w1.heap.size rfl 62 A (0, 0) _ L0.out Tryd.underlying62 rfl (by rw [sA]; rfl) ?_)
      | (refine wpList_store_row rfl 62 _ _ rfl (w.heap.size + 1) A rfl rfl 62 #[.int .u8 0, .int .u8 0, .int .u8 0, .int .u8 0] (R1.out _) (by rw [sA]; rfl) (by rw [sA]; rfl) oA.out ?_))
    refine bodyPost_ret (v := .agg A) (results_cell_row rfl _ _ (w.heap.size + 1) 62 A (0, 0) _ rfl (setRow_heap _ _ _ _ _ _ (R1.out _)) Tryd.underlying62 rfl (by rw [sA]; rfl)) rfl ⟨by rw [HA.out], ?_⟩
    exact below_setRow (below_alloc B1.out _).drew (by omega) _
  · simp only [List.getElem_toArray, List.getElem_cons_succ, List.getElem_cons_zero]
    go_simp
    refine (kP.out _).mono ?_
    rintro e y9 ⟨rfl, rfl⟩
    refine hK.out _ _ trivial (fun hHeld => ?_)
    clear hK K
    try simp only [Act.put, List.setIfInBounds_toArray, List.set_cons_zero, List.set_cons_succ]
    refine wpAnyH_ready (rs := [1]) (by kernel_rfl) (by simp) ?_
    refine AllReadyH.cons rfl (fun K hK => ?_) AllReadyH.nil
    simp only [List.getElem_toArray, List.getElem_cons_succ, List.getElem_cons_zero]
    go_simp
    refine hK.out _ _ ?_ (fun hHeld => ?_)
    · trivial
    clear hK K
    try simp only [Act.put, List.setIfInBounds_toArray, List.set_cons_zero, List.set_cons_succ]
    refine wpAnyH_take (i := 7) (v := ?_) rfl (by kernel_rfl) (by kernel_rfl) (by kernel_rfl) (fun _ _ _ h => h) (Or.inl ⟨by rfl, ?_⟩) (by assumption) ?_
    rotate_left
    · (intro w hSw; (try dsimp only at hSw); simp only [List.getElem_toArray, List.getElem_cons_succ, List.getElem_cons_zero]; go_simp; try with_reducible rfl)
    simp only [Act.put, List.getElem_toArray, List.getElem_cons_succ, List.getElem_cons_zero, List.setIfInBounds_toArray, List.set_cons_zero, List.set_cons_succ]
    refine wpAnyH_take (i := 8) (v := ?_) rfl (by kernel_rfl) (by kernel_rfl) (by kernel_rfl) (fun _ _ _ h => h) (Or.inl ⟨by rfl, ?_⟩) (by assumption) ?_
    rotate_left
    · (intro w hSw; (try dsimp only at hSw); simp only [List.getElem_toArray, List.getElem_cons_succ, List.getElem_cons_zero]; go_simp; try with_reducible rfl)
    simp only [Act.put, List.getElem_toArray, List.getElem_cons_succ, List.getElem_cons_zero, List.setIfInBounds_toArray, List.set_cons_zero, List.set_cons_succ]
    refine wpAnyH_ready (rs := [9]) (by kernel_rfl) (by simp) ?_
    refine AllReadyH.cons rfl (fun K hK => ?_) AllReadyH.nil
    simp only [List.getElem_toArray, List.getElem_cons_succ, List.getElem_cons_zero]
    go_simp
    refine hK.out _ _ ?_ (fun hHeld => ?_)
    · trivial
    clear hK K
    try simp only [Act.put, List.setIfInBounds_toArray, List.set_cons_zero, List.set_cons_succ]
    refine wpAnyH_done (by kernel_rfl) ?_ _
    obtain ⟨A, hA⟩ : ∃ A : Array Value, A = #[.int .u8 (o : Nat), .int .u8 (q : Nat), .int .u8 (r : Nat), .int .u8 (s : Nat)] := ⟨_, rfl⟩
    rw [← hA]
    have sA : A.size = 4 := by rw [hA]; rfl
    have oA : Hid (A.all (·.oneCell') = true) := by show _ = _; rw [hA]; exact one4 _ _ _ _
    have HA := hide hA
    have L0 : Hid ((w1.alloc (.cells A 62)).drew.heap[w1.heap.size]? = some (.cells A 62 (0, 0))) := heap_alloc_new _ _
    clear hA ho'
    go_wp2_with (first
      | (refine wpList_load_row rfl 62 _ rfl w1.heap.size rfl 62 A (0, 0) _ L0.out Tryd.underlying62 rfl (by rw [sA]; rfl) ?_)
      | (refine wpList_store_row rfl 62 _ _ rfl (w.heap.size + 1) A rfl rfl 62 #[.int .u8 0, .int .u8 0, .int .u8 0, .int .u8 0] (R1.out _) (by rw [sA]; rfl) (by rw [sA]; rfl) oA.out ?_))
    refine bodyPost_ret (v := .agg A) (results_cell_row rfl _ _ (w.heap.size + 1) 62 A (0, 0) _ rfl (setRow_heap _ _ _ _ _ _ (R1.out _)) Tryd.underlying62 rfl (by rw [sA]; rfl)) rfl ⟨by rw [HA.out], ?_⟩
    exact below_setRow (below_alloc B1.out _).drew (by omega) _

set_option linter.unusedSimpArgs false in
set_option maxRecDepth 100000 in
set_option maxHeartbeats 1000000 in
theorem changed_first8 (v : Value) (a b c d p q r s z o at' k : Nat) (w : World) (hr : at' % 8 = 0) (hk : k + 1 = at' / 8) (hat : at' < 60) (ho : Hid (bits .xor .u8 (p : Nat) (z : Nat) = ((o : Nat) : Int)))
    (kB : Hid (∀ w', Below w.heap.size w w' → Calls Tryd.prog 67 #[v, .agg #[.int .u8 (b : Nat), .int .u8 (c : Nat), .int .u8 (d : Nat), .int .u8 (a : Nat)]] w' fun e w'' => e = .returned (.agg #[.int .u8 (p : Nat), .int .u8 (q : Nat), .int .u8 (r : Nat), .int .u8 (s : Nat)]) ∧ Below w'.heap.size w' w''))
    (kP : Hid (∀ w', Calls Tryd.prog 62 #[.int .u8 2, .int .i64 (k : Nat)] w' fun e w'' => e = .returned (.int .u8 (z : Nat)) ∧ w'' = w')) :
    Calls Tryd.prog 49 #[v, .agg #[.int .u8 (a : Nat), .int .u8 (b : Nat), .int .u8 (c : Nat), .int .u8 (d : Nat)], .int .i64 (at' : Nat), .int .i64 8] w fun e w' => e = .returned (.agg #[.int .u8 (o : Nat), .int .u8 (q : Nat), .int .u8 (r : Nat), .int .u8 (s : Nat)]) ∧ Below w.heap.size w w' := by
  have B0 := hide (below_alloc (below_alloc (Below.refl w.heap.size w) (.cells #[.int .u8 (a : Nat), .int .u8 (b : Nat), .int .u8 (c : Nat), .int .u8 (d : Nat)] 62)) (.cells #[.int .u8 0, .int .u8 0, .int .u8 0, .int .u8 0] 62))
  have K1 := hide (kB.out _ B0.out)
  have ho' := ho.out
  obtain ⟨q1, eq1⟩ : ∃ q1, q1 = at' / 8 := ⟨_, rfl⟩
  have w1 : IntKind.i64.wrap ((at' : Int) / 8) = (q1 : Int) := by rw [IntKind.wrap_i64]; omega
  have w2 : IntKind.i64.wrap ((q1 : Int) - 1) = (k : Int) := by rw [IntKind.wrap_i64]; omega
  go_enter Tryd.func49, Tryd.ntmps49
  go_wp2_with fail
  refine (K1.out).mono ?_
  rintro e w1 ⟨rfl, b1⟩
  have R0 := hide ((b1.block (w.heap.size + 1) (by simp)).trans (heap_alloc2_new _ _ _))
  have B1 := hide (below_two B0.out b1)
  have R1 : Hid (∀ x : Obj, (w1.alloc x).drew.heap[w.heap.size + 1]? = some (.cells #[.int .u8 0, .int .u8 0, .int .u8 0, .int .u8 0] 62 (0, 0))) := fun x =>
    ((below_alloc (Below.refl w1.heap.size w1) x).block _ (Array.getElem?_eq_some_iff.1 R0.out).1).trans R0.out
  clear hk eq1 hr K1 B0 b1 R0
  go_wp2_with fail
  refine wp_region_held_drew (S := fun _ => True) (by kernel_rfl) trivial (fun hHeld => ?_)
  refine wpAnyH_take (i := 0) (v := ?_) rfl (by kernel_rfl) (by kernel_rfl) (by kernel_rfl) (fun _ _ _ h => h) (Or.inl ⟨by rfl, ?_⟩) (by assumption) ?_
  rotate_left
  · (intro w hSw; (try dsimp only at hSw); simp only [List.getElem_toArray, List.getElem_cons_zero]; go_simp; try with_reducible rfl)
  simp only [Act.put, List.getElem_toArray, List.getElem_cons_zero, List.setIfInBounds_toArray, List.set_cons_zero, List.set_cons_succ]
  refine wpAnyH_take (i := 2) (v := ?_) rfl (by kernel_rfl) (by kernel_rfl) (by kernel_rfl) (fun _ _ _ h => h) (Or.inl ⟨by rfl, ?_⟩) (by assumption) ?_
  rotate_left
  · (intro w hSw; (try dsimp only at hSw); simp only [List.getElem_toArray, List.getElem_cons_succ, List.getElem_cons_zero]; go_simp; try with_reducible rfl)
  simp only [Act.put, List.getElem_toArray, List.getElem_cons_succ, List.getElem_cons_zero, List.setIfInBounds_toArray, List.set_cons_zero, List.set_cons_succ]
  refine wpAnyH_take (i := 3) (v := ?_) rfl (by kernel_rfl) (by kernel_rfl) (by kernel_rfl) (fun _ _ _ h => h) (Or.inl ⟨by rfl, ?_⟩) (by assumption) ?_
  rotate_left
  · (intro w hSw; (try dsimp only at hSw); simp only [List.getElem_toArray, List.getElem_cons_succ, List.getElem_cons_zero]; go_simp; try with_reducible rfl)
  simp only [Act.put, List.getElem_toArray, List.getElem_cons_succ, List.getElem_cons_zero, List.setIfInBounds_toArray, List.set_cons_zero, List.set_cons_succ]
  refine wpAnyH_take (i := 4) (v := ?_) rfl (by kernel_rfl) (by kernel_rfl) (by kernel_rfl) (fun _ _ _ h => h) (Or.inl ⟨by rfl, ?_⟩) (by assumption) ?_
  rotate_left
  · (intro w hSw; (try dsimp only at hSw); simp only [List.getElem_toArray, List.getElem_cons_succ, List.getElem_cons_zero]; go_simp; try with_reducible rfl)
  simp only [Act.put, List.getElem_toArray, List.getElem_cons_succ, List.getElem_cons_zero, List.setIfInBounds_toArray, List.set_cons_zero, List.set_cons_succ]
  refine wpAnyH_take (i := 5) (v := ?_) rfl (by kernel_rfl) (by kernel_rfl) (by kernel_rfl) (fun _ _ _ h => h) (Or.inl ⟨by rfl, ?_⟩) (by assumption) ?_
  rotate_left
  · (intro w hSw; (try dsimp only at hSw); simp only [List.getElem_toArray, List.getElem_cons_succ, List.getElem_cons_zero]; go_simp; try with_reducible rfl)
  simp only [Act.put, List.getElem_toArray, List.getElem_cons_succ, List.getElem_cons_zero, List.setIfInBounds_toArray, List.set_cons_zero, List.set_cons_succ]
  refine wpAnyH_ready (rs := [1, 6]) (by kernel_rfl) (by simp) ?_
  refine AllReadyH.cons rfl (fun K hK => ?_) (AllReadyH.cons rfl (fun K hK => ?_) AllReadyH.nil)
  · simp only [List.getElem_toArray, List.getElem_cons_succ, List.getElem_cons_zero]
    go_simp
    refine hK.out _ _ trivial (fun hHeld => ?_)
    clear hK K
    try simp only [Act.put, List.setIfInBounds_toArray, List.set_cons_zero, List.set_cons_succ]
    refine wpAnyH_ready (rs := [6]) (by kernel_rfl) (by simp) ?_
    refine AllReadyH.cons rfl (fun K hK => ?_) AllReadyH.nil
    simp only [List.getElem_toArray, List.getElem_cons_succ, List.getElem_cons_zero]
    go_simp
    refine (kP.out _).mono ?_
    rintro e y9 ⟨rfl, rfl⟩
    refine hK.out _ _ ?_ (fun hHeld => ?_)
    · trivial
    clear hK K
    try simp only [Act.put, List.setIfInBounds_toArray, List.set_cons_zero, List.set_cons_succ]
    refine wpAnyH_take (i := 7) (v := ?_) rfl (by kernel_rfl) (by kernel_rfl) (by kernel_rfl) (fun _ _ _ h => h) (Or.inl ⟨by rfl, ?_⟩) (by assumption) ?_
    rotate_left
    · (intro w hSw; (try dsimp only at hSw); simp only [List.getElem_toArray, List.getElem_cons_succ, List.getElem_cons_zero]; go_simp; try with_reducible rfl)
    simp only [Act.put, List.getElem_toArray, List.getElem_cons_succ, List.getElem_cons_zero, List.setIfInBounds_toArray, List.set_cons_zero, List.set_cons_succ]
    refine wpAnyH_take (i := 8) (v := ?_) rfl (by kernel_rfl) (by kernel_rfl) (by kernel_rfl) (fun _ _ _ h => h) (Or.inl ⟨by rfl, ?_⟩) (by assumption) ?_
    rotate_left
    · (intro w hSw; (try dsimp only at hSw); simp only [List.getElem_toArray, List.getElem_cons_succ, List.getElem_cons_zero]; go_simp; try with_reducible rfl)
    simp only [Act.put, List.getElem_toArray, List.getElem_cons_succ, List.getElem_cons_zero, List.setIfInBounds_toArray, List.set_cons_zero, List.set_cons_succ]
    refine wpAnyH_ready (rs := [9]) (by kernel_rfl) (by simp) ?_
    refine AllReadyH.cons rfl (fun K hK => ?_) AllReadyH.nil
    simp only [List.getElem_toArray, List.getElem_cons_succ, List.getElem_cons_zero]
    go_simp
    refine hK.out _ _ ?_ (fun hHeld => ?_)
    · trivial
    clear hK K
    try simp only [Act.put, List.setIfInBounds_toArray, List.set_cons_zero, List.set_cons_succ]
    refine wpAnyH_done (by kernel_rfl) ?_ _
    obtain ⟨A, hA⟩ : ∃ A : Array Value, A = #[.int .u8 (o : Nat), .int .u8 (q : Nat), .int .u8 (r : Nat), .int .u8 (s : Nat)] := ⟨_, rfl⟩
    rw [← hA]
    have sA : A.size = 4 := by rw [hA]; rfl
    have oA : Hid (A.all (·.oneCell') = true) := by show _ = _; rw [hA]; exact one4 _ _ _ _
    have HA := hide hA
    have L0 : Hid ((w1.alloc (.cells A 62)).drew.heap[w1.heap.size]? = some (.cells A 62 (0, 0))) := heap_alloc_new _ _
    clear hA ho'
    go_wp2_with (first
      | (refine wpList_load_row rfl 62 _ rfl w1.heap.size rfl 62 A (0, 0) _ L0.out Tryd.underlying62 rfl (by rw [sA]; rfl) ?_)
      | (refine wpList_store_row rfl 62 _ _ rfl (w.heap.size + 1) A rfl rfl 62 #[.int .u8 0, .int .u8 0, .int .u8 0, .int .u8 0] (R1.out _) (by rw [sA]; rfl) (by rw [sA]; rfl) oA.out ?_))
    refine bodyPost_ret (v := .agg A) (results_cell_row rfl _ _ (w.heap.size + 1) 62 A (0, 0) _ rfl (setRow_heap _ _ _ _ _ _ (R1.out _)) Tryd.underlying62 rfl (by rw [sA]; rfl)) rfl ⟨by rw [HA.out], ?_⟩
    exact below_setRow (below_alloc B1.out _).drew (by omega) _
  · simp only [List.getElem_toArray, List.getElem_cons_succ, List.getElem_cons_zero]
    go_simp
    refine (kP.out _).mono ?_
    rintro e y9 ⟨rfl, rfl⟩
    refine hK.out _ _ trivial (fun hHeld => ?_)
    clear hK K
    try simp only [Act.put, List.setIfInBounds_toArray, List.set_cons_zero, List.set_cons_succ]
    refine wpAnyH_ready (rs := [1]) (by kernel_rfl) (by simp) ?_
    refine AllReadyH.cons rfl (fun K hK => ?_) AllReadyH.nil
    simp only [List.getElem_toArray, List.getElem_cons_succ, List.getElem_cons_zero]
    go_simp
    refine hK.out _ _ ?_ (fun hHeld => ?_)
    · trivial
    clear hK K
    try simp only [Act.put, List.setIfInBounds_toArray, List.set_cons_zero, List.set_cons_succ]
    refine wpAnyH_take (i := 7) (v := ?_) rfl (by kernel_rfl) (by kernel_rfl) (by kernel_rfl) (fun _ _ _ h => h) (Or.inl ⟨by rfl, ?_⟩) (by assumption) ?_
    rotate_left
    · (intro w hSw; (try dsimp only at hSw); simp only [List.getElem_toArray, List.getElem_cons_succ, List.getElem_cons_zero]; go_simp; try with_reducible rfl)
    simp only [Act.put, List.getElem_toArray, List.getElem_cons_succ, List.getElem_cons_zero, List.setIfInBounds_toArray, List.set_cons_zero, List.set_cons_succ]
    refine wpAnyH_take (i := 8) (v := ?_) rfl (by kernel_rfl) (by kernel_rfl) (by kernel_rfl) (fun _ _ _ h => h) (Or.inl ⟨by rfl, ?_⟩) (by assumption) ?_
    rotate_left
    · (intro w hSw; (try dsimp only at hSw); simp only [List.getElem_toArray, List.getElem_cons_succ, List.getElem_cons_zero]; go_simp; try with_reducible rfl)
    simp only [Act.put, List.getElem_toArray, List.getElem_cons_succ, List.getElem_cons_zero, List.setIfInBounds_toArray, List.set_cons_zero, List.set_cons_succ]
    refine wpAnyH_ready (rs := [9]) (by kernel_rfl) (by simp) ?_
    refine AllReadyH.cons rfl (fun K hK => ?_) AllReadyH.nil
    simp only [List.getElem_toArray, List.getElem_cons_succ, List.getElem_cons_zero]
    go_simp
    refine hK.out _ _ ?_ (fun hHeld => ?_)
    · trivial
    clear hK K
    try simp only [Act.put, List.setIfInBounds_toArray, List.set_cons_zero, List.set_cons_succ]
    refine wpAnyH_done (by kernel_rfl) ?_ _
    obtain ⟨A, hA⟩ : ∃ A : Array Value, A = #[.int .u8 (o : Nat), .int .u8 (q : Nat), .int .u8 (r : Nat), .int .u8 (s : Nat)] := ⟨_, rfl⟩
    rw [← hA]
    have sA : A.size = 4 := by rw [hA]; rfl
    have oA : Hid (A.all (·.oneCell') = true) := by show _ = _; rw [hA]; exact one4 _ _ _ _
    have HA := hide hA
    have L0 : Hid ((w1.alloc (.cells A 62)).drew.heap[w1.heap.size]? = some (.cells A 62 (0, 0))) := heap_alloc_new _ _
    clear hA ho'
    go_wp2_with (first
      | (refine wpList_load_row rfl 62 _ rfl w1.heap.size rfl 62 A (0, 0) _ L0.out Tryd.underlying62 rfl (by rw [sA]; rfl) ?_)
      | (refine wpList_store_row rfl 62 _ _ rfl (w.heap.size + 1) A rfl rfl 62 #[.int .u8 0, .int .u8 0, .int .u8 0, .int .u8 0] (R1.out _) (by rw [sA]; rfl) (by rw [sA]; rfl) oA.out ?_))
    refine bodyPost_ret (v := .agg A) (results_cell_row rfl _ _ (w.heap.size + 1) 62 A (0, 0) _ rfl (setRow_heap _ _ _ _ _ _ (R1.out _)) Tryd.underlying62 rfl (by rw [sA]; rfl)) rfl ⟨by rw [HA.out], ?_⟩
    exact below_setRow (below_alloc B1.out _).drew (by omega) _

set_option maxRecDepth 100000 in
set_option maxHeartbeats 1000000 in
theorem changed_mid8 (v : Value) (a b c d p q r s at' : Nat) (w : World) (hr : at' % 8 = 4) (hat : at' < 60)
    (kB : Hid (∀ w', Below w.heap.size w w' → Calls Tryd.prog 67 #[v, .agg #[.int .u8 (a : Nat), .int .u8 (b : Nat), .int .u8 (c : Nat), .int .u8 (d : Nat)]] w' fun e w'' => e = .returned (.agg #[.int .u8 (p : Nat), .int .u8 (q : Nat), .int .u8 (r : Nat), .int .u8 (s : Nat)]) ∧ Below w'.heap.size w' w'')) :
    Calls Tryd.prog 49 #[v, .agg #[.int .u8 (a : Nat), .int .u8 (b : Nat), .int .u8 (c : Nat), .int .u8 (d : Nat)], .int .i64 (at' : Nat), .int .i64 8] w fun e w' => e = .returned (.agg #[.int .u8 (p : Nat), .int .u8 (q : Nat), .int .u8 (r : Nat), .int .u8 (s : Nat)]) ∧ Below w.heap.size w w' := by
  have B0 := hide (below_alloc (below_alloc (Below.refl w.heap.size w) (.cells #[.int .u8 (a : Nat), .int .u8 (b : Nat), .int .u8 (c : Nat), .int .u8 (d : Nat)] 62)) (.cells #[.int .u8 0, .int .u8 0, .int .u8 0, .int .u8 0] 62))
  have K1 := hide (kB.out _ B0.out)
  have h1 : ¬ at' % 8 = 0 := by omega
  obtain ⟨A, hA⟩ : ∃ A : Array Value, A = #[.int .u8 (p : Nat), .int .u8 (q : Nat), .int .u8 (r : Nat), .int .u8 (s : Nat)] := ⟨_, rfl⟩
  rw [← hA] at K1 ⊢
  have sA : A.size = 4 := by rw [hA]; rfl
  have oA : Hid (A.all (·.oneCell') = true) := by show _ = _; rw [hA]; exact one4 _ _ _ _
  clear hA kB
  go_enter Tryd.func49, Tryd.ntmps49
  go_wp2_with fail
  refine (K1.out).mono ?_
  rintro e w1 ⟨rfl, b1⟩
  have R0 := hide ((b1.block (w.heap.size + 1) (by simp)).trans (heap_alloc2_new _ _ _))
  have B1 := hide (below_two B0.out b1)
  clear K1 B0 b1
  go_wp2_with (refine wpList_store_row rfl 62 _ _ rfl (w.heap.size + 1) A rfl rfl 62 #[.int .u8 0, .int .u8 0, .int .u8 0, .int .u8 0] R0.out (by rw [sA]; rfl) (by rw [sA]; rfl) oA.out ?_)
  refine bodyPost_ret (v := .agg A) (results_cell_row rfl _ _ (w.heap.size + 1) 62 A (0, 0) _ rfl (setRow_heap _ _ _ _ _ _ R0.out) Tryd.underlying62 rfl (by rw [sA]; rfl)) rfl ⟨rfl, ?_⟩
  exact below_setRow B1.out (by omega) _
set_option maxRecDepth 100000 in
set_option maxHeartbeats 1000000 in
theorem changed_same4 (v : Value) (a b c d at' : Nat) (w : World) (h1 : ¬ at' % 4 = 0) (hat : at' < 60) :
    Calls Tryd.prog 49 #[v, .agg #[.int .u8 (a : Nat), .int .u8 (b : Nat), .int .u8 (c : Nat), .int .u8 (d : Nat)], .int .i64 (at' : Nat), .int .i64 4] w fun e w' => e = .returned (.agg #[.int .u8 (a : Nat), .int .u8 (b : Nat), .int .u8 (c : Nat), .int .u8 (d : Nat)]) ∧ Below w.heap.size w w' := by
  go_enter Tryd.func49, Tryd.ntmps49
  go_wp2
  simp [bodyPost, results, Tryd.results49, go_sem]
  repeat (first | exact Below.refl _ _ | refine below_alloc ?_ _)
set_option maxRecDepth 100000 in
set_option maxHeartbeats 1000000 in
theorem changed_same6 (v : Value) (a b c d at' : Nat) (w : World) (h1 : ¬ at' % 6 = 0) (hat : at' < 60) :
    Calls Tryd.prog 49 #[v, .agg #[.int .u8 (a : Nat), .int .u8 (b : Nat), .int .u8 (c : Nat), .int .u8 (d : Nat)], .int .i64 (at' : Nat), .int .i64 6] w fun e w' => e = .returned (.agg #[.int .u8 (a : Nat), .int .u8 (b : Nat), .int .u8 (c : Nat), .int .u8 (d : Nat)]) ∧ Below w.heap.size w w' := by
  go_enter Tryd.func49, Tryd.ntmps49
  go_wp2
  simp [bodyPost, results, Tryd.results49, go_sem]
  repeat (first | exact Below.refl _ _ | refine below_alloc ?_ _)
set_option maxRecDepth 100000 in
set_option maxHeartbeats 1000000 in
theorem changed_same8 (v : Value) (a b c d at' : Nat) (w : World) (h1 : ¬ at' % 8 = 0) (h2 : ¬ at' % 8 = 4) (hat : at' < 60) :
    Calls Tryd.prog 49 #[v, .agg #[.int .u8 (a : Nat), .int .u8 (b : Nat), .int .u8 (c : Nat), .int .u8 (d : Nat)], .int .i64 (at' : Nat), .int .i64 8] w fun e w' => e = .returned (.agg #[.int .u8 (a : Nat), .int .u8 (b : Nat), .int .u8 (c : Nat), .int .u8 (d : Nat)]) ∧ Below w.heap.size w w' := by
  go_enter Tryd.func49, Tryd.ntmps49
  go_wp2
  simp [bodyPost, results, Tryd.results49, go_sem]
  repeat (first | exact Below.refl _ _ | refine below_alloc ?_ _)
end Go.Proofs.YtdfbcdgneboilaaDoor
namespace Go.Proofs.YtdfbcdgneboilaaDoor
open Go.ChangeShapes Go.WideShapes Go.ChangeAt Go.RowKit
set_option maxRecDepth 20000

/-- What a word takes from the one ahead of it. -/
def chg (x : Nat → Nat) (i n : Nat) : Nat → Nat :=
  if i % n = 0 then fun r => match r with | 0 => sbox (x 1) ^^^ pw 2 (i / n - 1) | 1 => sbox (x 2) | 2 => sbox (x 3) | _ => sbox (x 0)
  else if n = 8 ∧ i % 8 = 4 then fun r => sbox (x r) else x
theorem chg_byt {x : Nat → Nat} (hx : Byt x) (i n : Nat) : Byt (chg x i n) := by
  unfold chg
  split
  · intro r
    match r with
    | 0 => exact xor_lt _ _ (sbox_lt _ (hx 1)) (pw_lt 2 (by decide) _)
    | 1 => exact sbox_lt _ (hx 2)
    | 2 => exact sbox_lt _ (hx 3)
    | _ + 3 => exact sbox_lt _ (hx 0)
  · split
    · exact fun r => sbox_lt _ (hx r)
    · exact hx
theorem changed_any (g : Nat) (x : Nat → Nat) (hx : Byt x) (i n : Nat) (hn : n = 4 ∨ n = 6 ∨ n = 8) (hi : n ≤ i) (hi2 : i < 60) (w : World) (ht : IsTab w g) :
    Calls Tryd.prog 49 #[.pointer (some ⟨g, 0, none⟩), .agg (bc 4 x).toArray, .int .i64 (i : Nat), .int .i64 (n : Nat)] w fun e w' => e = .returned (.agg (bc 4 (chg x i n)).toArray) ∧ Below w.heap.size w w' := by
  have first : i % n = 0 → ∀ k, k + 1 = i / n → bc 4 (chg x i n) = bc 4 fun r => match r with | 0 => sbox (x 1) ^^^ pw 2 k | 1 => sbox (x 2) | 2 => sbox (x 3) | _ => sbox (x 0) := fun h k hk => by
    unfold chg; rw [if_pos h, show i / n - 1 = k by omega]
  have bx := fun w' (hb : Below w.heap.size w w') => boxed_any g (x 1) (x 2) (x 3) (x 0) (hx 1) (hx 2) (hx 3) (hx 0) w' (ht.later hb)
  have by' := fun w' (hb : Below w.heap.size w w') => boxed_any g (x 0) (x 1) (x 2) (x 3) (hx 0) (hx 1) (hx 2) (hx 3) w' (ht.later hb)
  by_cases h : i % n = 0
  · obtain ⟨k, hk⟩ : ∃ k, k + 1 = i / n := ⟨i / n - 1, by have : 1 ≤ i / n := (Nat.le_div_iff_mul_le (by omega)).2 (by omega); omega⟩
    rw [first h k hk]
    have kp := fun w' => power_any 2 k (by decide) (by have : i / n ≤ i := Nat.div_le_self _ _; omega) w'
    have xo := xor_u8 (sbox (x 1)) (pw 2 k) (sbox_lt _ (hx 1)) (pw_lt 2 (by decide) k)
    rcases hn with rfl | rfl | rfl
    · exact changed_first4 _ (x 0) (x 1) (x 2) (x 3) _ _ _ _ _ _ i k w h hk hi2 xo bx kp
    · exact changed_first6 _ (x 0) (x 1) (x 2) (x 3) _ _ _ _ _ _ i k w h hk hi2 xo bx kp
    · exact changed_first8 _ (x 0) (x 1) (x 2) (x 3) _ _ _ _ _ _ i k w h hk hi2 xo bx kp
  · rcases hn with rfl | rfl | rfl
    · have e : chg x i 4 = x := by unfold chg; rw [if_neg h, if_neg (by omega)]
      rw [e]; exact changed_same4 _ (x 0) (x 1) (x 2) (x 3) i w h hi2
    · have e : chg x i 6 = x := by unfold chg; rw [if_neg h, if_neg (by omega)]
      rw [e]; exact changed_same6 _ (x 0) (x 1) (x 2) (x 3) i w h hi2
    · by_cases h4 : i % 8 = 4
      · have e : chg x i 8 = fun r => sbox (x r) := by unfold chg; rw [if_neg h, if_pos ⟨rfl, h4⟩]
        rw [e]; exact changed_mid8 _ (x 0) (x 1) (x 2) (x 3) _ _ _ _ i w h4 hi2 by'
      · have e : chg x i 8 = x := by unfold chg; rw [if_neg h, if_neg fun h' => h4 h'.2]
        rw [e]; exact changed_same8 _ (x 0) (x 1) (x 2) (x 3) i w h h4 hi2

/-! Parts of rows. -/
def setL (cs : List Value) (o : Nat) : List Value → List Value
  | [] => cs
  | v :: vs => setL (cs.set o v) (o + 1) vs
theorem setCells_row (g : Nat) (t : TypeId) : ∀ (vs : List Value) (o : Nat) (w : World) (cs : List Value), w.heap[g]? = some (.cells cs.toArray t (0, 0)) → (w.setCells g o vs).heap[g]? = some (.cells (setL cs o vs).toArray t (0, 0))
  | [], _, _, _, h => h
  | v :: vs, o, w, cs, h => setCells_row g t vs (o + 1) _ _ (cell_set_row w g o cs t v h)
theorem setCells_below (g B : Nat) (hB : B ≤ g) : ∀ (vs : List Value) (o : Nat) (w0 w : World), Below B w0 w → Below B w0 (w.setCells g o vs)
  | [], _, _, _, h => h
  | _ :: vs, o, w0, _, h => setCells_below g B hB vs (o + 1) w0 _ (h.setCell hB _)
theorem setCells_heap (g k : Nat) (hk : k ≠ g) : ∀ (vs : List Value) (o : Nat) (w : World), (w.setCells g o vs).heap[k]? = w.heap[k]?
  | [], _, _ => rfl
  | _ :: vs, o, _ => (setCells_heap g k hk vs (o + 1) _).trans (heap_setCell_other _ _ _ _ hk)
theorem setL_bc (n o : Nat) (F p : Nat → Nat) : setL (bc n F) o (bc 4 p) = bc n fun j => if o ≤ j ∧ j < o + 4 then p (j - o) else F j := by
  have e : bc 4 p = [.int .u8 (p 0 : Nat), .int .u8 (p 1 : Nat), .int .u8 (p 2 : Nat), .int .u8 (p 3 : Nat)] := rfl
  rw [e, setL, setL, setL, setL, setL, bc_set, bc_set, bc_set, bc_set]
  refine bc_congr fun j _ => ?_
  by_cases h : o ≤ j ∧ j < o + 4
  · rw [if_pos h]
    obtain h | h | h | h : j = o ∨ j = o + 1 ∨ j = o + 2 ∨ j = o + 3 := by omega
    · rw [if_neg (by omega), if_neg (by omega), if_neg (by omega), if_pos h, show j - o = 0 by omega]
    · rw [if_neg (by omega), if_neg (by omega), if_pos h, show j - o = 1 by omega]
    · rw [if_neg (by omega), if_pos (by omega), show j - o = 2 by omega]
    · rw [if_pos (by omega), show j - o = 3 by omega]
  · rw [if_neg h, if_neg (by omega), if_neg (by omega), if_neg (by omega), if_neg (by omega)]
theorem there_row {w : World} {g o m : Nat} {cs : List Value} {t : TypeId} (h : w.heap[g]? = some (.cells cs.toArray t (0, 0))) (hm : o + m ≤ cs.length) : w.there g o m := fun j hj =>
  ⟨by rw [cell_of_row w g _ _ _ _ h]; simp; omega, frozen_of_row w _ _ _ _ h⟩
theorem range_mid {w : World} {g o m n : Nat} {F : Nat → Nat} {t : TypeId} (h : w.heap[g]? = some (.cells (bc n F).toArray t (0, 0))) (hm : o + m ≤ n) : w.rangeAt g o (bc m fun r => F (o + r)) := fun j v hj => by
  have hjm : j < m := by have := (List.getElem?_eq_some_iff.1 hj).1; rwa [bc_len] at this
  rw [bc_get m _ j hjm] at hj
  rw [row_cell h (o + j) (by omega)]; exact hj
theorem word_mid (f : Nat → Nat) (hf : Byt f) (w : World) (b o : Nat) (h : w.rangeAt b o (bc 4 f)) :
    Calls Tryd.prog 48 #[.slice (some ⟨b, o, none⟩) 4 4, .int .i64 0] w fun e w' => e = .returned (.int .u32 (wd f : Nat)) ∧ Below w.heap.size w w' := by
  have := word_any (.slice (some ⟨b, o, none⟩) 4 4) (toB 4 f) 0 w ⟨by rw [toB_len]; decide, _, 4, by rw [toB_len], .inr ⟨b, o, rfl, fun i hi => by
    rw [toB_len] at hi
    rw [h i _ (bc_get 4 f i hi)]
    have := toB_get 4 f hf i hi
    unfold lf at this
    rw [this]⟩⟩
  rw [num_wd f hf] at this
  exact this
theorem num_wd_at (bs : List UInt8) (a : Nat) (h : a + 4 ≤ bs.length) : num bs a 4 = wd fun r => lf bs (a + r) := by
  have b : ∀ k : Nat, k < 4 → byteAt bs ((a : Int) + (k : Int)) = lf bs (a + k) := fun k hk => by
    rw [byteAt_in _ _ (by omega) (by omega), show ((a : Int) + (k : Int)).toNat = a + k by omega]; rfl
  have e : num bs a 4 = 0 + byteAt bs ((a : Int) + ((0 : Nat) : Int)) * 2 ^ (8 * 0) + byteAt bs ((a : Int) + ((1 : Nat) : Int)) * 2 ^ (8 * 1) + byteAt bs ((a : Int) + ((2 : Nat) : Int)) * 2 ^ (8 * 2) + byteAt bs ((a : Int) + ((3 : Nat) : Int)) * 2 ^ (8 * 3) := rfl
  rw [e, b 0 (by decide), b 1 (by decide), b 2 (by decide), b 3 (by decide)]
  show _ = lf bs (a + 0) + lf bs (a + 1) * 256 + lf bs (a + 2) * 65536 + lf bs (a + 3) * 16777216
  omega
/-- The bytes of a key's words, of which k are made. -/
def eb (kf : Nat → Nat) (n : Nat) : Nat → Nat → Nat
  | 0 => fun j => if j < 4 * n then kf j else 0
  | k + 1 => fun j => if 4 * (n + k) ≤ j ∧ j < 4 * (n + k) + 4 then eb kf n k (j - 4 * n) ^^^ chg (fun r => eb kf n k (4 * (n + k) - 4 + r)) (n + k) n (j - 4 * (n + k)) else eb kf n k j
theorem eb_byt {kf : Nat → Nat} (hk : Byt kf) (n : Nat) : ∀ k, Byt (eb kf n k)
  | 0 => fun j => by
    show (if j < 4 * n then kf j else 0) < 256
    split
    · exact hk j
    · exact Nat.zero_lt_succ _
  | k + 1 => fun j => by
    unfold eb
    split
    · exact xor_lt _ _ (eb_byt hk n k _) (chg_byt (fun r => eb_byt hk n k _) _ _ _)
    · exact eb_byt hk n k j
end Go.Proofs.YtdfbcdgneboilaaDoor
namespace Go.Proofs.YtdfbcdgneboilaaDoor
open Go.ChangeShapes Go.WideShapes Go.ChangeAt Go.RowKit
set_option maxRecDepth 20000

theorem zero240 (w : World) : (zeroValue 64).run Tryd.prog w = .ok (.agg (bc 240 fun _ => 0).toArray) w := by kernel_rfl
set_option linter.unusedSimpArgs false in
set_option maxRecDepth 100000 in
set_option maxHeartbeats 4000000 in
theorem expanded_core (v0 : Value) (a : Option Addr) (len cap n many : Nat) (kf : Nat → Nat) (E ch nw : Nat → Nat → Nat) (wk xa xb xc : Nat → Nat) (w : World) (hn : n = 4 ∨ n = 6 ∨ n = 8) (hlen : len = 4 * n) (hmany : n < many) (hm60 : many ≤ 60)
    (hE0 : Hid (bc 240 (upto (4 * n) kf) = bc 240 (E 0)))
    (hE : Hid (∀ k, n + k < many → (bc 240 fun j => if 4 * (n + k) ≤ j ∧ j < 4 * (n + k) + 4 then nw k (j - 4 * (n + k)) else E k j) = bc 240 (E (k + 1))))
    (cW : Hid (∀ i, i < n → ∀ w', Below w.heap.size w w' → Calls Tryd.prog 48 #[.slice a len cap, .int .i64 ((4 * i : Nat) : Int)] w' fun e w'' => e = .returned (.int .u32 (wk i : Nat)) ∧ Below w'.heap.size w' w''))
    (cP : Hid (∀ i, i < n → ∀ w', Calls Tryd.prog 47 #[.int .u32 (wk i : Nat)] w' fun e w'' => e = .returned (.agg (bc 4 fun r => kf (4 * i + r)).toArray) ∧ Below w'.heap.size w' w''))
    (cC : Hid (∀ k, n + k < many → ∀ w', Below w.heap.size w w' → Calls Tryd.prog 49 #[v0, .agg (bc 4 fun r => E k (4 * (n + k) - 4 + r)).toArray, .int .i64 ((n + k : Nat) : Int), .int .i64 (n : Nat)] w' fun e w'' => e = .returned (.agg (bc 4 (ch k)).toArray) ∧ Below w'.heap.size w' w''))
    (cA : Hid (∀ k, n + k < many → ∀ w' b o, w'.rangeAt b o (bc 4 fun r => E k (4 * k + r)) → Calls Tryd.prog 48 #[.slice (some ⟨b, o, none⟩) 4 4, .int .i64 0] w' fun e w'' => e = .returned (.int .u32 (xa k : Nat)) ∧ Below w'.heap.size w' w''))
    (cB : Hid (∀ k, n + k < many → ∀ w' b o, w'.rangeAt b o (bc 4 (ch k)) → Calls Tryd.prog 48 #[.slice (some ⟨b, o, none⟩) 4 4, .int .i64 0] w' fun e w'' => e = .returned (.int .u32 (xb k : Nat)) ∧ Below w'.heap.size w' w''))
    (hx : Hid (∀ k, n + k < many → bits .xor .u32 (xa k : Nat) (xb k : Nat) = ((xc k : Nat) : Int)))
    (cX : Hid (∀ k, n + k < many → ∀ w', Calls Tryd.prog 47 #[.int .u32 (xc k : Nat)] w' fun e w'' => e = .returned (.agg (bc 4 (nw k)).toArray) ∧ Below w'.heap.size w' w'')) :
    Calls Tryd.prog 30 #[v0, .slice a len cap, .int .i64 (many : Nat)] w fun e w' => e = .returned (.agg (bc 240 (E (many - n))).toArray) ∧ Below w.heap.size w w' := by
  obtain ⟨Z, hZ⟩ : ∃ Z, Z = bc 240 (fun _ => 0) := ⟨_, rfl⟩
  have hz := zero240
  rw [← hZ] at hz
  have hZl : Z.toArray.size = 240 := by rw [hZ, List.size_toArray, bc_len]
  have HZ := hide hZ
  have hn8 : n ≤ 8 := by omega
  have hl4 : (len : Int) / 4 = (n : Int) := by omega
  have HLEN := hide hlen
  have HN := hide hn
  have HMANY := hide hmany
  have h4n : 4 ≤ n := by omega
  clear hZ hlen hn hmany
  go_enter Tryd.func30, Tryd.ntmps30
  go_wp2
  refine wp_scope_jumps 0 (fun a' w' => ∃ (k t : Nat) (u9 u11 u16 u17 u18 u19 u20 u21 u22 u23 u24 u25 u26 u27 u28 u29 u30 u31 u32 u33 u34 u35 u36 u37 u38 u39 u40 u41 u42 u43 u44 u45 u46 u47 u48 u49 u50 u51 u52 u53 : Value), n + k < many ∧ t = n + k ∧ a' = { tmps := #[v0, .slice a len cap, .int .i64 (many : Nat), undef, undef, undef, .pointer (some ⟨w.heap.size, 0, none⟩), .pointer (some ⟨w.heap.size + 1, 0, none⟩), .int .i64 (n : Nat), u9, .int .i64 (t : Nat), u11, .slice a len cap, .int .i64 (len : Nat), .int .i64 (n : Nat), .int .i64 (n : Nat), u16, u17, u18, u19, u20, u21, u22, u23, u24, u25, u26, u27, u28, u29, u30, u31, u32, u33, u34, u35, u36, u37, u38, u39, u40, u41, u42, u43, u44, u45, u46, u47, u48, u49, u50, u51, u52, u53], defers := [] } ∧ Hid (Below w.heap.size w w' ∧ w'.heap[w.heap.size]? = some (.cells Z.toArray 64 (0, 0)) ∧ w'.heap[w.heap.size + 1]? = some (.cells (bc 240 (E k)).toArray 64 (0, 0)))) (fun a' _ => many - (intOf (a'.tmps.getD 10 undef)).toNat) rfl ?_ ?_
  case refine_2 =>
    rintro a' w' ⟨k, t, u9, u11, u16, u17, u18, u19, u20, u21, u22, u23, u24, u25, u26, u27, u28, u29, u30, u31, u32, u33, u34, u35, u36, u37, u38, u39, u40, u41, u42, u43, u44, u45, u46, u47, u48, u49, u50, u51, u52, u53, hkm, htk, rfl, HS⟩
    have HT0 : n + k < many := hkm
    obtain ⟨P, hP⟩ : ∃ P, P = bc 4 (fun r => E k (4 * (n + k) - 4 + r)) := ⟨_, rfl⟩
    obtain ⟨C, hC⟩ : ∃ C, C = bc 4 (ch k) := ⟨_, rfl⟩
    obtain ⟨D, hD⟩ : ∃ D, D = bc 4 (nw k) := ⟨_, rfl⟩
    have lP : P.length = 4 := by rw [hP]; exact bc_len _ _
    have iP : (Tryd.prog.info? 62).map (·.size) = some P.length := by rw [lP]; rfl
    have sC : C.toArray.size = 4 := by rw [hC, List.size_toArray, bc_len]
    have oC : Hid (C.toArray.all (·.oneCell') = true) := by rw [hC]; exact bc_one _ _
    have sD : D.toArray.size = 4 := by rw [hD, List.size_toArray, bc_len]
    have oD : Hid (D.toArray.all (·.oneCell') = true) := by rw [hD]; exact bc_one _ _
    have K1 := hide (cC.out k HT0 w' HS.out.1)
    have K2 := hide (cA.out k HT0)
    have K3 := hide (cB.out k HT0)
    have hxx := hx.out k HT0
    have K4 := hide (cX.out k HT0)
    rw [← hP, ← hC] at K1
    rw [← hC] at K3
    rw [← hD] at K4
    have HD := hide hD
    generalize xa k = ya at K2 hxx
    generalize xb k = yb at K3 hxx
    generalize xc k = yc at hxx K4
    rw [← htk] at K1
    have rP : Hid (w'.rangeAt (w.heap.size + 1) ((t - 1) * 4) P) := by
      rw [hP]
      have := range_mid (o := 4 * (n + k) - 4) (m := 4) HS.out.2.2 (by omega)
      rw [show (t - 1) * 4 = 4 * (n + k) - 4 by omega]
      exact this
    have rQ : Hid (w'.rangeAt (w.heap.size + 1) (k * 4) (bc 4 fun r => E k (4 * k + r))) := by
      have := range_mid (o := 4 * k) (m := 4) HS.out.2.2 (by omega)
      rw [show k * 4 = 4 * k by omega]
      exact this
    have hlo : w.heap.size + 1 < w'.heap.size := (Array.getElem?_eq_some_iff.1 HS.out.2.2).1
    have w2 : IntKind.i64.wrap ((t : Int) - (n : Int)) = (k : Int) := by rw [IntKind.wrap_i64]; omega
    have i2 : (k : Int) < 60 := by omega
    have i3 : (t : Int) < 60 := by omega
    have i4 : t < 60 := by omega
    have i5 : 4 ≤ t := by omega
    have hz4 := zero4
    obtain ⟨Z4, hZ4⟩ : ∃ Z4, Z4 = bc 4 (fun _ => 0) := ⟨_, rfl⟩
    rw [← hZ4] at hz4
    have sZ4 : Z4.toArray.size = 4 := by rw [hZ4, List.size_toArray, bc_len]
    clear hP hC hD hZ4 lP
    have HTK := hide htk
    have HKM := hide hkm
    clear htk hkm
    go_wp2_with (refine wpList_load_mid rfl 62 _ rfl (w.heap.size + 1) ((t - 1) * 4) rfl P _ rP.out Tryd.underlying62 rfl iP ?_)
    refine (K1.out).mono ?_
    rintro e w3 ⟨rfl, b3⟩
    obtain ⟨nb, nr⟩ := new_row w3 Z4.toArray C.toArray 62
    have b4 := below_two b3 nb
    have NR := hide nr
    have B4 := hide b4
    have RQ := hide (fun j v (hj : (bc 4 fun r => E k (4 * k + r))[j]? = some v) => Go.Proofs.YtdfbcdgneboilaaDoor.later b4 (rQ.out j v hj))
    clear b3 b4 nb nr K1 rQ rP
    go_wp2_with (refine wpList_store_row rfl 62 _ _ rfl w3.heap.size C.toArray rfl rfl 62 _ (heap_alloc_new _ _) (by rw [sC]; rfl) (by rw [sC, sZ4]) oC.out ?_)
    have RH := hide ((B4.out.block _ (Array.getElem?_eq_some_iff.1 HS.out.2.2).1).trans HS.out.2.2)
    have RZ := hide ((B4.out.block _ (Array.getElem?_eq_some_iff.1 HS.out.2.1).1).trans HS.out.2.1)
    have BW := hide (below_two HS.out.1 B4.out)
    obtain ⟨g3, hg3⟩ : ∃ g3, g3 = w3.heap.size := ⟨_, rfl⟩
    obtain ⟨W5, hW5⟩ : ∃ W5, W5 = (w3.alloc (.cells Z4.toArray 62)).setRow w3.heap.size C.toArray := ⟨_, rfl⟩
    rw [← hW5] at NR RQ RH RZ BW ⊢
    rw [← hg3] at NR ⊢
    clear hW5 hg3 B4 HS hz4
    have hwz : IntKind.i64.wrap 0 = 0 := rfl
    refine wp_region_held_drew (S := fun _ => True) (by kernel_rfl) trivial (fun hHeld => ?_)
    refine wpAnyH_take (i := 0) (v := ?_) rfl (by kernel_rfl) (by kernel_rfl) (by kernel_rfl) (fun _ _ _ h => h) (Or.inl ⟨by rfl, ?_⟩) (by assumption) ?_
    rotate_left
    · (intro w hSw; (try dsimp only at hSw); simp only [List.getElem_toArray, List.getElem_cons_zero]; go_simp; try with_reducible rfl)
    simp only [Act.put, List.getElem_toArray, List.getElem_cons_zero, List.setIfInBounds_toArray, List.set_cons_zero, List.set_cons_succ]
    refine wpAnyH_take (i := 1) (v := ?_) rfl (by kernel_rfl) (by kernel_rfl) (by kernel_rfl) (fun _ _ _ h => h) (Or.inl ⟨by rfl, ?_⟩) (by assumption) ?_
    rotate_left
    · (intro w hSw; (try dsimp only at hSw); simp only [List.getElem_toArray, List.getElem_cons_succ, List.getElem_cons_zero]; go_simp; try with_reducible rfl)
    simp only [Act.put, List.getElem_toArray, List.getElem_cons_succ, List.getElem_cons_zero, List.setIfInBounds_toArray, List.set_cons_zero, List.set_cons_succ]
    refine wpAnyH_take (i := 2) (v := ?_) rfl (by kernel_rfl) (by kernel_rfl) (by kernel_rfl) (fun _ _ _ h => h) (Or.inl ⟨by rfl, ?_⟩) (by assumption) ?_
    rotate_left
    · (intro w hSw; (try dsimp only at hSw); simp only [List.getElem_toArray, List.getElem_cons_succ, List.getElem_cons_zero]; go_simp; try with_reducible rfl)
    simp only [Act.put, List.getElem_toArray, List.getElem_cons_succ, List.getElem_cons_zero, List.setIfInBounds_toArray, List.set_cons_zero, List.set_cons_succ]
    refine wpAnyH_take (i := 3) (v := ?_) rfl (by kernel_rfl) (by kernel_rfl) (by kernel_rfl) (fun _ _ _ h => h) (Or.inl ⟨by rfl, ?_⟩) (by assumption) ?_
    rotate_left
    · (intro w hSw; (try dsimp only at hSw); simp only [List.getElem_toArray, List.getElem_cons_succ, List.getElem_cons_zero]; go_simp; try with_reducible rfl)
    simp only [Act.put, List.getElem_toArray, List.getElem_cons_succ, List.getElem_cons_zero, List.setIfInBounds_toArray, List.set_cons_zero, List.set_cons_succ]
    refine wpAnyH_take (i := 4) (v := ?_) rfl (by kernel_rfl) (by kernel_rfl) (by kernel_rfl) (fun _ _ _ h => h) (Or.inl ⟨by rfl, ?_⟩) (by assumption) ?_
    rotate_left
    · (intro w hSw; (try dsimp only at hSw); simp only [List.getElem_toArray, List.getElem_cons_succ, List.getElem_cons_zero]; go_simp; try with_reducible rfl)
    simp only [Act.put, List.getElem_toArray, List.getElem_cons_succ, List.getElem_cons_zero, List.setIfInBounds_toArray, List.set_cons_zero, List.set_cons_succ]
    refine wpAnyH_take (i := 5) (v := ?_) rfl (by kernel_rfl) (by kernel_rfl) (by kernel_rfl) (fun _ _ _ h => h) (Or.inl ⟨by rfl, ?_⟩) (by assumption) ?_
    rotate_left
    · (intro w hSw; (try dsimp only at hSw); simp only [List.getElem_toArray, List.getElem_cons_succ, List.getElem_cons_zero]; go_simp; try with_reducible rfl)
    simp only [Act.put, List.getElem_toArray, List.getElem_cons_succ, List.getElem_cons_zero, List.setIfInBounds_toArray, List.set_cons_zero, List.set_cons_succ]
    refine wpAnyH_take (i := 7) (v := ?_) rfl (by kernel_rfl) (by kernel_rfl) (by kernel_rfl) (fun _ _ _ h => h) (Or.inl ⟨by rfl, ?_⟩) (by assumption) ?_
    rotate_left
    · (intro w hSw; (try dsimp only at hSw); simp only [List.getElem_toArray, List.getElem_cons_succ, List.getElem_cons_zero]; go_simp; try with_reducible rfl)
    simp only [Act.put, List.getElem_toArray, List.getElem_cons_succ, List.getElem_cons_zero, List.setIfInBounds_toArray, List.set_cons_zero, List.set_cons_succ]
    refine wpAnyH_ready (rs := [6]) (by kernel_rfl) (by simp) ?_
    refine AllReadyH.cons rfl (fun K hK => ?_) AllReadyH.nil
    simp only [List.getElem_toArray, List.getElem_cons_succ, List.getElem_cons_zero]
    go_simp
    refine (K2.out W5.drew _ _ RQ.out).mono ?_
    rintro e w6 ⟨rfl, b6⟩
    go_wp2_with fail
    refine hK.out _ _ ?_ (fun hHeld => ?_)
    · trivial
    clear hK K
    try simp only [Act.put, List.setIfInBounds_toArray, List.set_cons_zero, List.set_cons_succ]
    refine wpAnyH_ready (rs := [8]) (by kernel_rfl) (by simp) ?_
    refine AllReadyH.cons rfl (fun K hK => ?_) AllReadyH.nil
    simp only [List.getElem_toArray, List.getElem_cons_succ, List.getElem_cons_zero]
    go_simp
    refine (K3.out _ g3 0 ?hr8).mono ?_
    case hr8 =>
      intro j v hj
      refine Go.Proofs.YtdfbcdgneboilaaDoor.later b6 ?_
      show W5.cell? _ = _
      rw [Nat.zero_add, cell_of_row _ g3 _ _ _ _ NR.out]; simpa using hj
    rintro e w7 ⟨rfl, b7⟩
    go_wp2_with fail
    refine hK.out _ _ ?_ (fun hHeld => ?_)
    · trivial
    clear hK K
    try simp only [Act.put, List.setIfInBounds_toArray, List.set_cons_zero, List.set_cons_succ]
    refine wpAnyH_take (i := 9) (v := ?_) rfl (by kernel_rfl) (by kernel_rfl) (by kernel_rfl) (fun _ _ _ h => h) (Or.inl ⟨by rfl, ?_⟩) (by assumption) ?_
    rotate_left
    · (intro w hSw; (try dsimp only at hSw); simp only [List.getElem_toArray, List.getElem_cons_succ, List.getElem_cons_zero]; go_simp; try with_reducible rfl)
    simp only [Act.put, List.getElem_toArray, List.getElem_cons_succ, List.getElem_cons_zero, List.setIfInBounds_toArray, List.set_cons_zero, List.set_cons_succ]
    refine wpAnyH_ready (rs := [10]) (by kernel_rfl) (by simp) ?_
    refine AllReadyH.cons rfl (fun K hK => ?_) AllReadyH.nil
    simp only [List.getElem_toArray, List.getElem_cons_succ, List.getElem_cons_zero]
    go_simp
    refine (K4.out _).mono ?_
    rintro e w8 ⟨rfl, b8⟩
    go_wp2_with fail
    refine hK.out _ _ ?_ (fun hHeld => ?_)
    · trivial
    clear hK K
    try simp only [Act.put, List.setIfInBounds_toArray, List.set_cons_zero, List.set_cons_succ]
    refine wpAnyH_take (i := 11) (v := ?_) rfl (by kernel_rfl) (by kernel_rfl) (by kernel_rfl) (fun _ _ _ h => h) (Or.inl ⟨by rfl, ?_⟩) (by assumption) ?_
    rotate_left
    · (intro w hSw; (try dsimp only at hSw); simp only [List.getElem_toArray, List.getElem_cons_succ, List.getElem_cons_zero]; go_simp; try with_reducible rfl)
    simp only [Act.put, List.getElem_toArray, List.getElem_cons_succ, List.getElem_cons_zero, List.setIfInBounds_toArray, List.set_cons_zero, List.set_cons_succ]
    have b678 := below_two (below_two b6 b7) b8
    have RH8 := (b678.block _ (Array.getElem?_eq_some_iff.1 RH.out).1).trans RH.out
    have RZ8 := hide ((b678.block _ (Array.getElem?_eq_some_iff.1 RZ.out).1).trans RZ.out)
    have BW8 := hide (below_two BW.out.drew b678)
    refine wpAnyH_ready (rs := [12]) (by kernel_rfl) (by simp) ?_
    refine AllReadyH.cons rfl (fun K hK => ?_) AllReadyH.nil
    rw [if_pos (by rfl)]
    refine wp_store_mid 62 _ _ rfl (w.heap.size + 1) (t * 4) D.toArray rfl rfl (by rw [sD]; exact there_row RH8 (by rw [bc_len]; omega)) (by rw [sD]; rfl) oD.out (hK.out _ _ trivial (fun hHeld => ?_))
    clear hK K
    try simp only [Act.put, List.setIfInBounds_toArray, List.set_cons_zero, List.set_cons_succ]
    refine wpAnyH_done (by kernel_rfl) ?_ _
    have HF : Hid (Below w.heap.size w (w8.setCells (w.heap.size + 1) (t * 4) D.toArray.toList) ∧ (w8.setCells (w.heap.size + 1) (t * 4) D.toArray.toList).heap[w.heap.size]? = some (.cells Z.toArray 64 (0, 0)) ∧ (w8.setCells (w.heap.size + 1) (t * 4) D.toArray.toList).heap[w.heap.size + 1]? = some (.cells (bc 240 (E (k + 1))).toArray 64 (0, 0))) := by
      refine ⟨setCells_below _ _ (by omega) _ _ _ _ BW8.out, (setCells_heap _ _ (by omega) _ _ _).trans RZ8.out, ?_⟩
      have h := setCells_row (w.heap.size + 1) 64 D (t * 4) w8 _ RH8
      rw [HD.out, setL_bc] at h
      rw [← hE.out k (by have := HKM.out; omega)]
      show (w8.setCells (w.heap.size + 1) (t * 4) D).heap[w.heap.size + 1]? = _
      rw [HD.out, h]
      have htk := HTK.out
      rw [show t * 4 = 4 * (n + k) by omega]
    obtain ⟨W9, hW9⟩ : ∃ W9, W9 = w8.setCells (w.heap.size + 1) (t * 4) D.toArray.toList := ⟨_, rfl⟩
    rw [← hW9] at HF ⊢
    clear hW9 RH8 RZ8 BW8 b678 b6 b7 b8 RQ RH RZ BW NR K2 K3 K4 hxx
    by_cases hjj : t + 1 < many
    · have hj : decide (((t : Nat) : Int) + 1 < (many : Int)) = true := decide_eq_true (by omega)
      go_wp2
      go_step3
      rw [show ((t : Nat) : Int) + 1 = ((t + 1 : Nat) : Int) by omega]
      refine And.intro rfl (And.intro ?_ ?_)
      · exact ⟨k + 1, t + 1, _, _, _, _, _, _, _, _, _, _, _, _, _, _, _, _, _, _, _, _, _, _, _, _, _, _, _, _, _, _, _, _, _, _, _, _, _, _, _, _, by have := HTK.out; omega, by have := HTK.out; omega, rfl, HF⟩
      · simp [intOf]; omega
    · have hj : decide (((t : Nat) : Int) + 1 < (many : Int)) = false := decide_eq_false (by omega)
      obtain ⟨V, hV⟩ : ∃ V, V = (bc 240 (E (k + 1))).toArray := ⟨_, rfl⟩
      have hVl : V.size = 240 := by rw [hV, List.size_toArray, bc_len]
      have hV1 : Hid (V.all (·.oneCell') = true) := by rw [hV]; exact bc_one _ _
      have HV := hide hV
      have R2 : Hid (W9.heap[w.heap.size + 1]? = some (.cells V 64 (0, 0))) := by rw [hV]; exact HF.out.2.2
      have R1 := hide HF.out.2.1
      clear hV
      go_wp2_with (first
        | (refine wpList_load_row rfl 64 _ rfl (w.heap.size + 1) rfl 64 V (0, 0) _ R2.out Tryd.underlying64 rfl (by rw [hVl]; rfl) ?_)
        | (refine wpList_store_row rfl 64 _ _ rfl w.heap.size V rfl rfl 64 Z.toArray R1.out (by rw [hVl]; rfl) (by rw [hZl, hVl]) hV1.out ?_))
      simp only [Exit.jump]
      refine bodyPost_ret (v := .agg V) (results_cell_row rfl _ _ w.heap.size 64 V (0, 0) _ rfl (setRow_heap _ _ _ _ _ _ R1.out) Tryd.underlying64 rfl (by rw [hVl]; rfl)) rfl ⟨?_, ?_⟩
      · have hq : many - n = k + 1 := by have htk := HTK.out; have hkm := HKM.out; have := HMANY.out; omega
        rw [HV.out, hq]
      · exact below_setRow HF.out.1 (by omega) _
  go_wp2
  clear hz
  try rw [hl4]
  go_loopw [16] (fun j wr => ∃ i : Nat, i ≤ n ∧ j = .int .i64 i ∧ Hid (Below w.heap.size w wr ∧ wr.heap[w.heap.size]? = some (.cells Z.toArray 64 (0, 0)) ∧ wr.heap[w.heap.size + 1]? = some (.cells (bc 240 (upto (4 * i) kf)).toArray 64 (0, 0)))) (fun j _ => n - (intOf j).toNat)
  case atStart =>
    refine ⟨0, by omega, rfl, below_alloc (below_alloc (Below.refl _ _) _) _, heap_alloc2_old _ _ _, ?_⟩
    rw [Nat.mul_zero, upto_zero, ← HZ.out]; exact heap_alloc2_new _ _ _
  case round =>
    obtain ⟨i, hi, rfl, HR⟩ := hrel
    by_cases hlt : i < n
    · have i1 : (i : Int) < n := by omega
      have i2 : i < 8 := by omega
      obtain ⟨d, hd⟩ : ∃ d, d = 4 * i := ⟨_, rfl⟩
      have K1 := hide (cW.out i hlt wr HR.out.1)
      have K2 := hide (cP.out i hlt)
      rw [← hd] at K1 K2 HR
      have w1 : IntKind.i64.wrap (4 * (i : Int)) = (d : Int) := by rw [IntKind.wrap_i64]; omega
      have HD := hide hd
      clear hd
      go_wp2_with fail
      refine (K1.out).mono ?_
      rintro e w1 ⟨rfl, b1⟩
      go_wp2_with fail
      refine (K2.out _).mono ?_
      rintro e w2 ⟨rfl, b2⟩
      obtain ⟨A, hA⟩ : ∃ A, A = bc 4 (fun r => kf (d + r)) := ⟨_, rfl⟩
      rw [← hA]
      have sA : A.toArray.size = 4 := by rw [hA, List.size_toArray, bc_len]
      have oA : Hid (A.toArray.all (·.oneCell') = true) := by rw [hA]; exact bc_one _ _
      have HA := hide hA
      have R2 := hide (((below_two b1 b2).block _ (Array.getElem?_eq_some_iff.1 HR.out.2.2).1).trans HR.out.2.2)
      have B2 := hide (below_two b1 b2)
      have hth : Hid (w2.there (w.heap.size + 1) (i * 4) A.toArray.size) := by
        have := HD.out
        rw [sA]; exact there_row R2.out (by rw [bc_len]; omega)
      clear hA K1 K2 b1 b2
      go_wp2_with (refine wpList_store_mid rfl 62 _ _ rfl (w.heap.size + 1) (i * 4) A.toArray rfl rfl hth.out (by rw [sA]; rfl) oA.out ?_)
      go_roundw
      case rel =>
        refine ⟨i + 1, by omega, by go_num, setCells_below _ _ (by omega) _ _ _ _ (below_two HR.out.1 B2.out), ?_, ?_⟩
        · rw [setCells_heap _ _ (by omega)]
          exact (B2.out.block _ (Array.getElem?_eq_some_iff.1 HR.out.2.1).1).trans HR.out.2.1
        · have h := setCells_row (w.heap.size + 1) 64 A (i * 4) w2 _ R2.out
          rw [HA.out, setL_bc] at h
          rw [HA.out]
          refine Eq.trans ?_ (Eq.trans h ?_)
          · rfl
          · rw [bc_congr]
            intro j _
            have := HD.out
            unfold upto
            by_cases h1 : i * 4 ≤ j ∧ j < i * 4 + 4
            · rw [if_pos h1, if_pos (by omega), show d + (j - i * 4) = j by omega]
            · rw [if_neg h1]
              by_cases h2 : j < d
              · rw [if_pos h2, if_pos (by omega)]
              · rw [if_neg h2, if_neg (by omega)]
      case measure => simp [intOf]; omega
    · obtain rfl : n = i := by omega
      have HS : Hid (Below w.heap.size w wr ∧ wr.heap[w.heap.size]? = some (.cells Z.toArray 64 (0, 0)) ∧ wr.heap[w.heap.size + 1]? = some (.cells (bc 240 (E 0)).toArray 64 (0, 0))) := by
        have := HR.out
        rw [hE0.out] at this
        exact this
      clear HR hlt hi cW cP
      have HT0 : n + 0 < many := HMANY.out
      obtain ⟨P, hP⟩ : ∃ P, P = bc 4 (fun r => E 0 (4 * (n + 0) - 4 + r)) := ⟨_, rfl⟩
      obtain ⟨C, hC⟩ : ∃ C, C = bc 4 (ch 0) := ⟨_, rfl⟩
      obtain ⟨D, hD⟩ : ∃ D, D = bc 4 (nw 0) := ⟨_, rfl⟩
      have lP : P.length = 4 := by rw [hP]; exact bc_len _ _
      have iP : (Tryd.prog.info? 62).map (·.size) = some P.length := by rw [lP]; rfl
      have sC : C.toArray.size = 4 := by rw [hC, List.size_toArray, bc_len]
      have oC : Hid (C.toArray.all (·.oneCell') = true) := by rw [hC]; exact bc_one _ _
      have sD : D.toArray.size = 4 := by rw [hD, List.size_toArray, bc_len]
      have oD : Hid (D.toArray.all (·.oneCell') = true) := by rw [hD]; exact bc_one _ _
      have K1 := hide (cC.out 0 HT0 wr HS.out.1)
      have K2 := hide (cA.out 0 HT0)
      have K3 := hide (cB.out 0 HT0)
      have hxx := hx.out 0 HT0
      have K4 := hide (cX.out 0 HT0)
      rw [← hP, ← hC] at K1
      rw [← hC] at K3
      rw [← hD] at K4
      have HD := hide hD
      generalize xa 0 = ya at K2 hxx
      generalize xb 0 = yb at K3 hxx
      generalize xc 0 = yc at hxx K4
      rw [Nat.add_zero] at K1
      have rP : Hid (wr.rangeAt (w.heap.size + 1) ((n - 1) * 4) P) := by
        rw [hP]
        have := range_mid (o := 4 * (n + 0) - 4) (m := 4) HS.out.2.2 (by omega)
        rw [show (n - 1) * 4 = 4 * (n + 0) - 4 by omega]
        exact this
      have rQ : Hid (wr.rangeAt (w.heap.size + 1) (0) (bc 4 fun r => E 0 (4 * 0 + r))) := by
        have := range_mid (o := 4 * 0) (m := 4) HS.out.2.2 (by omega)
        rw [show 0 = 4 * 0 by omega]
        exact this
      have hlo : w.heap.size + 1 < wr.heap.size := (Array.getElem?_eq_some_iff.1 HS.out.2.2).1
      have i3 : (n : Int) < 60 := by omega
      have i4 : n < 60 := by omega
      have hz4 := zero4
      obtain ⟨Z4, hZ4⟩ : ∃ Z4, Z4 = bc 4 (fun _ => 0) := ⟨_, rfl⟩
      rw [← hZ4] at hz4
      have sZ4 : Z4.toArray.size = 4 := by rw [hZ4, List.size_toArray, bc_len]
      clear hP hC hD hZ4 lP
      go_wp2_with fail
      go_step3
      
      go_wp2_with (refine wpList_load_mid rfl 62 _ rfl (w.heap.size + 1) ((n - 1) * 4) rfl P _ rP.out Tryd.underlying62 rfl iP ?_)
      refine (K1.out).mono ?_
      rintro e w3 ⟨rfl, b3⟩
      obtain ⟨nb, nr⟩ := new_row w3 Z4.toArray C.toArray 62
      have b4 := below_two b3 nb
      have NR := hide nr
      have B4 := hide b4
      have RQ := hide (fun j v (hj : (bc 4 fun r => E 0 (4 * 0 + r))[j]? = some v) => Go.Proofs.YtdfbcdgneboilaaDoor.later b4 (rQ.out j v hj))
      clear b3 b4 nb nr K1 rQ rP
      go_wp2_with (refine wpList_store_row rfl 62 _ _ rfl w3.heap.size C.toArray rfl rfl 62 _ (heap_alloc_new _ _) (by rw [sC]; rfl) (by rw [sC, sZ4]) oC.out ?_)
      have RH := hide ((B4.out.block _ (Array.getElem?_eq_some_iff.1 HS.out.2.2).1).trans HS.out.2.2)
      have RZ := hide ((B4.out.block _ (Array.getElem?_eq_some_iff.1 HS.out.2.1).1).trans HS.out.2.1)
      have BW := hide (below_two HS.out.1 B4.out)
      obtain ⟨g3, hg3⟩ : ∃ g3, g3 = w3.heap.size := ⟨_, rfl⟩
      obtain ⟨W5, hW5⟩ : ∃ W5, W5 = (w3.alloc (.cells Z4.toArray 62)).setRow w3.heap.size C.toArray := ⟨_, rfl⟩
      rw [← hW5] at NR RQ RH RZ BW ⊢
      rw [← hg3] at NR ⊢
      clear hW5 hg3 B4 HS hz4
      have hwz : IntKind.i64.wrap 0 = 0 := rfl
      refine wp_region_held_drew (S := fun _ => True) (by kernel_rfl) trivial (fun hHeld => ?_)
      refine wpAnyH_take (i := 0) (v := ?_) rfl (by kernel_rfl) (by kernel_rfl) (by kernel_rfl) (fun _ _ _ h => h) (Or.inl ⟨by rfl, ?_⟩) (by assumption) ?_
      rotate_left
      · (intro w hSw; (try dsimp only at hSw); simp only [List.getElem_toArray, List.getElem_cons_zero]; go_simp; try with_reducible rfl)
      simp only [Act.put, List.getElem_toArray, List.getElem_cons_zero, List.setIfInBounds_toArray, List.set_cons_zero, List.set_cons_succ]
      refine wpAnyH_take (i := 1) (v := ?_) rfl (by kernel_rfl) (by kernel_rfl) (by kernel_rfl) (fun _ _ _ h => h) (Or.inl ⟨by rfl, ?_⟩) (by assumption) ?_
      rotate_left
      · (intro w hSw; (try dsimp only at hSw); simp only [List.getElem_toArray, List.getElem_cons_succ, List.getElem_cons_zero]; go_simp; try with_reducible rfl)
      simp only [Act.put, List.getElem_toArray, List.getElem_cons_succ, List.getElem_cons_zero, List.setIfInBounds_toArray, List.set_cons_zero, List.set_cons_succ]
      refine wpAnyH_take (i := 2) (v := ?_) rfl (by kernel_rfl) (by kernel_rfl) (by kernel_rfl) (fun _ _ _ h => h) (Or.inl ⟨by rfl, ?_⟩) (by assumption) ?_
      rotate_left
      · (intro w hSw; (try dsimp only at hSw); simp only [List.getElem_toArray, List.getElem_cons_succ, List.getElem_cons_zero]; go_simp; try with_reducible rfl)
      simp only [Act.put, List.getElem_toArray, List.getElem_cons_succ, List.getElem_cons_zero, List.setIfInBounds_toArray, List.set_cons_zero, List.set_cons_succ]
      refine wpAnyH_take (i := 3) (v := ?_) rfl (by kernel_rfl) (by kernel_rfl) (by kernel_rfl) (fun _ _ _ h => h) (Or.inl ⟨by rfl, ?_⟩) (by assumption) ?_
      rotate_left
      · (intro w hSw; (try dsimp only at hSw); simp only [List.getElem_toArray, List.getElem_cons_succ, List.getElem_cons_zero]; go_simp; try with_reducible rfl)
      simp only [Act.put, List.getElem_toArray, List.getElem_cons_succ, List.getElem_cons_zero, List.setIfInBounds_toArray, List.set_cons_zero, List.set_cons_succ]
      refine wpAnyH_take (i := 4) (v := ?_) rfl (by kernel_rfl) (by kernel_rfl) (by kernel_rfl) (fun _ _ _ h => h) (Or.inl ⟨by rfl, ?_⟩) (by assumption) ?_
      rotate_left
      · (intro w hSw; (try dsimp only at hSw); simp only [List.getElem_toArray, List.getElem_cons_succ, List.getElem_cons_zero]; go_simp; try with_reducible rfl)
      simp only [Act.put, List.getElem_toArray, List.getElem_cons_succ, List.getElem_cons_zero, List.setIfInBounds_toArray, List.set_cons_zero, List.set_cons_succ]
      refine wpAnyH_take (i := 5) (v := ?_) rfl (by kernel_rfl) (by kernel_rfl) (by kernel_rfl) (fun _ _ _ h => h) (Or.inl ⟨by rfl, ?_⟩) (by assumption) ?_
      rotate_left
      · (intro w hSw; (try dsimp only at hSw); simp only [List.getElem_toArray, List.getElem_cons_succ, List.getElem_cons_zero]; go_simp; try with_reducible rfl)
      simp only [Act.put, List.getElem_toArray, List.getElem_cons_succ, List.getElem_cons_zero, List.setIfInBounds_toArray, List.set_cons_zero, List.set_cons_succ]
      refine wpAnyH_take (i := 7) (v := ?_) rfl (by kernel_rfl) (by kernel_rfl) (by kernel_rfl) (fun _ _ _ h => h) (Or.inl ⟨by rfl, ?_⟩) (by assumption) ?_
      rotate_left
      · (intro w hSw; (try dsimp only at hSw); simp only [List.getElem_toArray, List.getElem_cons_succ, List.getElem_cons_zero]; go_simp; try with_reducible rfl)
      simp only [Act.put, List.getElem_toArray, List.getElem_cons_succ, List.getElem_cons_zero, List.setIfInBounds_toArray, List.set_cons_zero, List.set_cons_succ]
      refine wpAnyH_ready (rs := [6]) (by kernel_rfl) (by simp) ?_
      refine AllReadyH.cons rfl (fun K hK => ?_) AllReadyH.nil
      simp only [List.getElem_toArray, List.getElem_cons_succ, List.getElem_cons_zero]
      go_simp
      refine (K2.out W5.drew _ _ RQ.out).mono ?_
      rintro e w6 ⟨rfl, b6⟩
      go_wp2_with fail
      refine hK.out _ _ ?_ (fun hHeld => ?_)
      · trivial
      clear hK K
      try simp only [Act.put, List.setIfInBounds_toArray, List.set_cons_zero, List.set_cons_succ]
      refine wpAnyH_ready (rs := [8]) (by kernel_rfl) (by simp) ?_
      refine AllReadyH.cons rfl (fun K hK => ?_) AllReadyH.nil
      simp only [List.getElem_toArray, List.getElem_cons_succ, List.getElem_cons_zero]
      go_simp
      refine (K3.out _ g3 0 ?hr8).mono ?_
      case hr8 =>
        intro j v hj
        refine Go.Proofs.YtdfbcdgneboilaaDoor.later b6 ?_
        show W5.cell? _ = _
        rw [Nat.zero_add, cell_of_row _ g3 _ _ _ _ NR.out]; simpa using hj
      rintro e w7 ⟨rfl, b7⟩
      go_wp2_with fail
      refine hK.out _ _ ?_ (fun hHeld => ?_)
      · trivial
      clear hK K
      try simp only [Act.put, List.setIfInBounds_toArray, List.set_cons_zero, List.set_cons_succ]
      refine wpAnyH_take (i := 9) (v := ?_) rfl (by kernel_rfl) (by kernel_rfl) (by kernel_rfl) (fun _ _ _ h => h) (Or.inl ⟨by rfl, ?_⟩) (by assumption) ?_
      rotate_left
      · (intro w hSw; (try dsimp only at hSw); simp only [List.getElem_toArray, List.getElem_cons_succ, List.getElem_cons_zero]; go_simp; try with_reducible rfl)
      simp only [Act.put, List.getElem_toArray, List.getElem_cons_succ, List.getElem_cons_zero, List.setIfInBounds_toArray, List.set_cons_zero, List.set_cons_succ]
      refine wpAnyH_ready (rs := [10]) (by kernel_rfl) (by simp) ?_
      refine AllReadyH.cons rfl (fun K hK => ?_) AllReadyH.nil
      simp only [List.getElem_toArray, List.getElem_cons_succ, List.getElem_cons_zero]
      go_simp
      refine (K4.out _).mono ?_
      rintro e w8 ⟨rfl, b8⟩
      go_wp2_with fail
      refine hK.out _ _ ?_ (fun hHeld => ?_)
      · trivial
      clear hK K
      try simp only [Act.put, List.setIfInBounds_toArray, List.set_cons_zero, List.set_cons_succ]
      refine wpAnyH_take (i := 11) (v := ?_) rfl (by kernel_rfl) (by kernel_rfl) (by kernel_rfl) (fun _ _ _ h => h) (Or.inl ⟨by rfl, ?_⟩) (by assumption) ?_
      rotate_left
      · (intro w hSw; (try dsimp only at hSw); simp only [List.getElem_toArray, List.getElem_cons_succ, List.getElem_cons_zero]; go_simp; try with_reducible rfl)
      simp only [Act.put, List.getElem_toArray, List.getElem_cons_succ, List.getElem_cons_zero, List.setIfInBounds_toArray, List.set_cons_zero, List.set_cons_succ]
      have b678 := below_two (below_two b6 b7) b8
      have RH8 := (b678.block _ (Array.getElem?_eq_some_iff.1 RH.out).1).trans RH.out
      have RZ8 := hide ((b678.block _ (Array.getElem?_eq_some_iff.1 RZ.out).1).trans RZ.out)
      have BW8 := hide (below_two BW.out.drew b678)
      refine wpAnyH_ready (rs := [12]) (by kernel_rfl) (by simp) ?_
      refine AllReadyH.cons rfl (fun K hK => ?_) AllReadyH.nil
      rw [if_pos (by rfl)]
      refine wp_store_mid 62 _ _ rfl (w.heap.size + 1) (n * 4) D.toArray rfl rfl (by rw [sD]; exact there_row RH8 (by rw [bc_len]; omega)) (by rw [sD]; rfl) oD.out (hK.out _ _ trivial (fun hHeld => ?_))
      clear hK K
      try simp only [Act.put, List.setIfInBounds_toArray, List.set_cons_zero, List.set_cons_succ]
      refine wpAnyH_done (by kernel_rfl) ?_ _
      have HF : Hid (Below w.heap.size w (w8.setCells (w.heap.size + 1) (n * 4) D.toArray.toList) ∧ (w8.setCells (w.heap.size + 1) (n * 4) D.toArray.toList).heap[w.heap.size]? = some (.cells Z.toArray 64 (0, 0)) ∧ (w8.setCells (w.heap.size + 1) (n * 4) D.toArray.toList).heap[w.heap.size + 1]? = some (.cells (bc 240 (E (0 + 1))).toArray 64 (0, 0))) := by
        refine ⟨setCells_below _ _ (by omega) _ _ _ _ BW8.out, (setCells_heap _ _ (by omega) _ _ _).trans RZ8.out, ?_⟩
        have h := setCells_row (w.heap.size + 1) 64 D (n * 4) w8 _ RH8
        rw [HD.out, setL_bc] at h
        rw [← hE.out 0 HMANY.out]
        show (w8.setCells (w.heap.size + 1) (n * 4) D).heap[w.heap.size + 1]? = _
        rw [HD.out, h]
        
        rw [show n * 4 = 4 * (n + 0) by omega]
      obtain ⟨W9, hW9⟩ : ∃ W9, W9 = w8.setCells (w.heap.size + 1) (n * 4) D.toArray.toList := ⟨_, rfl⟩
      rw [← hW9] at HF ⊢
      clear hW9 RH8 RZ8 BW8 b678 b6 b7 b8 RQ RH RZ BW NR K2 K3 K4 hxx
      by_cases hjj : n + 1 < many
      · have hj : decide (((n : Nat) : Int) + 1 < (many : Int)) = true := decide_eq_true (by omega)
        go_wp2
        go_step3
        rw [show ((n : Nat) : Int) + 1 = ((n + 1 : Nat) : Int) by omega]
        refine And.intro rfl ?_
        exact ⟨1, n + 1, _, _, _, _, _, _, _, _, _, _, _, _, _, _, _, _, _, _, _, _, _, _, _, _, _, _, _, _, _, _, _, _, _, _, _, _, _, _, _, _, hjj, rfl, rfl, HF⟩
      · have hj : decide (((n : Nat) : Int) + 1 < (many : Int)) = false := decide_eq_false (by omega)
        obtain ⟨V, hV⟩ : ∃ V, V = (bc 240 (E (0 + 1))).toArray := ⟨_, rfl⟩
        have hVl : V.size = 240 := by rw [hV, List.size_toArray, bc_len]
        have hV1 : Hid (V.all (·.oneCell') = true) := by rw [hV]; exact bc_one _ _
        have HV := hide hV
        have R2 : Hid (W9.heap[w.heap.size + 1]? = some (.cells V 64 (0, 0))) := by rw [hV]; exact HF.out.2.2
        have R1 := hide HF.out.2.1
        clear hV
        go_wp2_with (first
          | (refine wpList_load_row rfl 64 _ rfl (w.heap.size + 1) rfl 64 V (0, 0) _ R2.out Tryd.underlying64 rfl (by rw [hVl]; rfl) ?_)
          | (refine wpList_store_row rfl 64 _ _ rfl w.heap.size V rfl rfl 64 Z.toArray R1.out (by rw [hVl]; rfl) (by rw [hZl, hVl]) hV1.out ?_))
        simp only [Exit.jump]
        refine bodyPost_ret (v := .agg V) (results_cell_row rfl _ _ w.heap.size 64 V (0, 0) _ rfl (setRow_heap _ _ _ _ _ _ R1.out) Tryd.underlying64 rfl (by rw [hVl]; rfl)) rfl ⟨?_, ?_⟩
        · have hq : many - n = 0 + 1 := by have := HMANY.out; omega
          rw [HV.out, hq]
        · exact below_setRow HF.out.1 (by omega) _
end Go.Proofs.YtdfbcdgneboilaaDoor
namespace Go.Proofs.YtdfbcdgneboilaaDoor
open Go.ChangeShapes Go.WideShapes Go.ChangeAt Go.RowKit
set_option maxRecDepth 20000

theorem expanded_any (g : Nat) (v : Value) (bs : List UInt8) (n many : Nat) (w : World) (hv : IsB w v bs) (ht : IsTab w g) (hn : n = 4 ∨ n = 6 ∨ n = 8) (hlen : bs.length = 4 * n) (hmany : n < many) (hm60 : many ≤ 60) :
    Calls Tryd.prog 30 #[.pointer (some ⟨g, 0, none⟩), v, .int .i64 (many : Nat)] w fun e w' => e = .returned (.agg (bc 240 (eb (lf bs) n (many - n))).toArray) ∧ Below w.heap.size w w' := by
  obtain ⟨h0, a, cap, rfl, h1⟩ := hv
  have hv : IsB w (.slice a bs.length cap) bs := ⟨h0, a, cap, rfl, h1⟩
  have hb := lf_byt bs
  have hP : ∀ k, Byt fun r => eb (lf bs) n k (4 * (n + k) - 4 + r) := fun k r => eb_byt hb n k _
  have hQ : ∀ k, Byt fun r => eb (lf bs) n k (4 * k + r) := fun k r => eb_byt hb n k _
  have hC : ∀ k, Byt (chg (fun r => eb (lf bs) n k (4 * (n + k) - 4 + r)) (n + k) n) := fun k => chg_byt (hP k) _ _
  refine expanded_core _ a bs.length cap n many (lf bs) (eb (lf bs) n) (fun k => chg (fun r => eb (lf bs) n k (4 * (n + k) - 4 + r)) (n + k) n)
    (fun k r => eb (lf bs) n k (4 * k + r) ^^^ chg (fun r => eb (lf bs) n k (4 * (n + k) - 4 + r)) (n + k) n r)
    (fun i => wd fun r => lf bs (4 * i + r)) (fun k => wd fun r => eb (lf bs) n k (4 * k + r)) (fun k => wd (chg (fun r => eb (lf bs) n k (4 * (n + k) - 4 + r)) (n + k) n))
    (fun k => (wd fun r => eb (lf bs) n k (4 * k + r)) ^^^ wd (chg (fun r => eb (lf bs) n k (4 * (n + k) - 4 + r)) (n + k) n))
    w hn hlen hmany hm60 ?_ ?_ ?_ ?_ ?_ ?_ ?_ ?_ ?_
  · exact rfl
  · intro k _
    refine bc_congr fun j _ => ?_
    show _ = if 4 * (n + k) ≤ j ∧ j < 4 * (n + k) + 4 then _ else _
    by_cases h : 4 * (n + k) ≤ j ∧ j < 4 * (n + k) + 4
    · rw [if_pos h, if_pos h]
      show eb (lf bs) n k (4 * k + (j - 4 * (n + k))) ^^^ _ = _
      rw [show 4 * k + (j - 4 * (n + k)) = j - 4 * n by omega]
    · rw [if_neg h, if_neg h]
  · intro i hi w' hbl
    have := word_any (.slice a bs.length cap) bs ((4 * i : Nat) : Int) w' (hv.later hbl)
    rw [num_wd_at bs (4 * i) (by omega)] at this
    exact this
  · intro i hi w'
    have h4 : ∀ r, r < 4 → lf bs (4 * i + r) < 256 := fun r _ => hb _
    have := put4 (wd fun r => lf bs (4 * i + r)) (wd_lt h4) w'
    rw [bc_congr fun r hr => wd_byte h4 r hr] at this
    exact this
  · intro k hk w' hbl
    exact changed_any g _ (hP k) (n + k) n hn (by omega) (by omega) w' (ht.later hbl)
  · intro k hk w' b o h
    exact word_mid _ (hQ k) w' b o h
  · intro k hk w' b o h
    exact word_mid _ (hC k) w' b o h
  · intro k hk
    exact xor_u32 _ _ (wd_lt fun r _ => hQ k r) (wd_lt fun r _ => hC k r)
  · intro k hk w'
    have hlt : (wd fun r => eb (lf bs) n k (4 * k + r)) ^^^ wd (chg (fun r => eb (lf bs) n k (4 * (n + k) - 4 + r)) (n + k) n) < 4294967296 :=
      Nat.xor_lt_two_pow (n := 32) (wd_lt fun r _ => hQ k r) (wd_lt fun r _ => hC k r)
    have := put4 _ hlt w'
    rw [bc_congr fun r hr => (byte_xor _ _ r).trans (by rw [wd_byte (fun r _ => hQ k r) r hr, wd_byte (fun r _ => hC k r) r hr])] at this
    exact this
end Go.Proofs.YtdfbcdgneboilaaDoor
namespace Go.Proofs.YtdfbcdgneboilaaDoor
open Go.ChangeShapes Go.WideShapes Go.ChangeAt Go.RowKit
set_option maxRecDepth 20000

/-- How many rounds a key of that many bytes has. -/
def nrnd (n : Nat) : Nat := if n = 32 then 14 else if n = 24 then 12 else if n = 16 then 10 else 0
theorem roundsOf_any (n : Nat) (w : World) : Calls Tryd.prog 29 #[.int .i64 (n : Nat)] w fun e w' => e = .returned (.int .i64 (nrnd n : Nat)) ∧ w' = w := by
  by_cases h32 : n = 32
  · subst h32
    go_enter Tryd.func29, Tryd.ntmps29
    go_wp2
    go_ret
    exact ⟨rfl, rfl⟩
  · by_cases h24 : n = 24
    · subst h24
      go_enter Tryd.func29, Tryd.ntmps29
      go_wp2
      go_ret
      exact ⟨rfl, rfl⟩
    · by_cases h16 : n = 16
      · subst h16
        go_enter Tryd.func29, Tryd.ntmps29
        go_wp2
        go_ret
        exact ⟨rfl, rfl⟩
      · have e : nrnd n = 0 := by unfold nrnd; rw [if_neg h32, if_neg h24, if_neg h16]
        rw [e]
        have i32 : ¬ (n : Int) = 32 := by omega
        have i24 : ¬ (n : Int) = 24 := by omega
        have i16 : ¬ (n : Int) = 16 := by omega
        go_enter Tryd.func29, Tryd.ntmps29
        go_wp2
        go_ret
        exact ⟨rfl, rfl⟩
end Go.Proofs.YtdfbcdgneboilaaDoor
