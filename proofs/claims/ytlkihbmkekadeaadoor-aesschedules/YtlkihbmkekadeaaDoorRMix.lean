/- Own: the contract of the reference's mix (no statement is proved here). -/
import Derived.Test.YtlkihbmkekadeaaDoorRStep
namespace Go.Proofs.YtlkihbmkekadeaaDoor
open Go.ChangeShapes Go.WideShapes Go.ChangeAt Go.RowKit
set_option maxRecDepth 20000

def MFour (w : World) (X Y Z O : List Value) (wr : World) : Prop :=
  Below w.heap.size w wr ∧ wr.heap[w.heap.size]? = some (.cells X.toArray 31 (0, 0)) ∧ wr.heap[w.heap.size + 1]? = some (.cells Y.toArray 71 (0, 0)) ∧ wr.heap[w.heap.size + 2]? = some (.cells Z.toArray 31 (0, 0)) ∧ wr.heap[w.heap.size + 3]? = some (.cells O.toArray 31 (0, 0))
theorem MFour.start (w : World) (X Y Z O : List Value) : MFour w X Y Z O ((((w.alloc (.cells X.toArray 31)).alloc (.cells Y.toArray 71)).alloc (.cells Z.toArray 31)).alloc (.cells O.toArray 31)) := by
  have l : ∀ {w : World} {g : Nat} {x : Obj} (o : Obj), w.heap[g]? = some x → (w.alloc o).heap[g]? = some x := fun {w g x} o e =>
    (((Below.refl w.heap.size w).alloc (Nat.le_refl _) o).block g (Array.getElem?_eq_some_iff.1 e).1).trans e
  have s : ∀ (w : World) (o : Obj), (w.alloc o).heap.size = w.heap.size + 1 := fun w o => by simp
  have h := three_new w X.toArray Y.toArray Z.toArray 31 71 31
  refine ⟨below_alloc h.1 _, l _ h.2.1, l _ h.2.2.1, l _ h.2.2.2, ?_⟩
  rw [show w.heap.size + 3 = w.heap.size + 1 + 1 + 1 from rfl, ← s w (.cells X.toArray 31), ← s _ (.cells Y.toArray 71), ← s _ (.cells Z.toArray 31)]; exact heap_alloc_new _ _
theorem MFour.drew {w wr : World} {X Y Z O : List Value} (h : MFour w X Y Z O wr) : MFour w X Y Z O wr.drew := ⟨h.1.drew, h.2⟩
theorem MFour.set {w wr : World} {X Y Z O : List Value} (h : MFour w X Y Z O wr) (i : Nat) (v : Value) : MFour w X Y Z (O.set i v) (wr.setCell ⟨w.heap.size + 3, i, none⟩ v) := by
  obtain ⟨b, h1, h2, h3, h4⟩ := h
  refine ⟨b.setCell (by show w.heap.size ≤ w.heap.size + 3; omega) _, ?_, ?_, ?_, ?_⟩
  · rw [heap_setCell_other _ _ _ _ (by simp)]; exact h1
  · rw [heap_setCell_other _ _ _ _ (by simp)]; exact h2
  · rw [heap_setCell_other _ _ _ _ (by simp)]; exact h3
  · rw [heap_setCell_same _ _ _ _ _ _ h4, List.setIfInBounds_toArray]
/-- The first rows done, and of row i the first j parts. -/
def mrow (R : Nat → Nat) (C : Nat → Nat → Nat) (i j n : Nat) : Nat := if n < i then R n else if n = i then C i j else 0
theorem mrow_at (R : Nat → Nat) (C : Nat → Nat → Nat) (i j : Nat) : mrow R C i j i = C i j := by unfold mrow; rw [if_neg (by omega), if_pos rfl]
theorem mrow_zero {R : Nat → Nat} {C : Nat → Nat → Nat} (h : ∀ i, C i 0 = 0) (i : Nat) : bc 16 (mrow R C i 0) = bc 16 (upto i R) := bc_congr fun n _ => by
  unfold mrow upto
  by_cases h1 : n < i
  · rw [if_pos h1, if_pos h1]
  · rw [if_neg h1, if_neg h1, h]; by_cases h2 : n = i
    · rw [if_pos h2]
    · rw [if_neg h2]
theorem mrow_all {R : Nat → Nat} {C : Nat → Nat → Nat} (h : ∀ i, C i 4 = R i) (i : Nat) : bc 16 (mrow R C i 4) = bc 16 (upto (i + 1) R) := bc_congr fun n _ => by
  unfold mrow upto
  by_cases h1 : n < i
  · rw [if_pos h1, if_pos (by omega)]
  · rw [if_neg h1]
    by_cases h2 : n = i
    · rw [if_pos h2, if_pos (by omega), h, h2]
    · rw [if_neg h2, if_neg (by omega)]
theorem mstep (R : Nat → Nat) (C : Nat → Nat → Nat) (i j : Nat) : (bc 16 (mrow R C i j)).set i (.int .u8 (C i (j + 1) : Nat)) = bc 16 (mrow R C i (j + 1)) := by
  rw [bc_set]
  refine bc_congr fun n _ => ?_
  unfold mrow
  by_cases e : n = i
  · subst e; rw [if_pos rfl, if_neg (by omega), if_pos rfl]
  · rw [if_neg e]
    by_cases h : n < i
    · rw [if_pos h, if_pos h]
    · rw [if_neg h, if_neg h, if_neg e, if_neg e]
set_option linter.unusedSimpArgs false in
set_option maxRecDepth 100000 in
set_option maxHeartbeats 4000000 in
theorem mix_core (f R : Nat → Nat) (b : Nat → Nat) (C T : Nat → Nat → Nat) (w : World)
    (hC0 : Hid (∀ i, C i 0 = 0)) (hC4 : Hid (∀ i, C i 4 = R i))
    (hx : Hid (∀ i j, i < 16 → j < 4 → bits .xor .u8 (C i j : Nat) (T i j : Nat) = ((C i (j + 1) : Nat) : Int)))
    (cT : Hid (∀ i j, i < 16 → j < 4 → ∀ w, Calls Tryd.prog 64 #[.int .u8 (b ((j + 4 - i % 4) % 4) : Nat), .int .u8 (f (i / 4 * 4 + j) : Nat)] w fun e w' => e = .returned (.int .u8 (T i j : Nat)) ∧ w' = w)) :
    Calls Tryd.prog 67 #[.agg (bc 16 f).toArray, .agg (bc 4 b).toArray] w fun e w' => e = .returned (.agg (bc 16 R).toArray) ∧ Below w.heap.size w w' := by
  obtain ⟨X, hX⟩ : ∃ X, X = bc 16 f := ⟨_, rfl⟩
  obtain ⟨Y, hY⟩ : ∃ Y, Y = bc 4 b := ⟨_, rfl⟩
  obtain ⟨Z, hZ⟩ : ∃ Z, Z = bc 16 (fun _ => 0) := ⟨_, rfl⟩
  have hz := zero16
  rw [← hX, ← hY]
  rw [← hZ] at hz
  have HX := hide hX
  have HY := hide hY
  have HZ := hide hZ
  clear hX hY hZ
  go_enter Tryd.func67, Tryd.ntmps67
  go_wp2
  clear hz
  go_loopw [6] (fun j wr => ∃ i : Nat, i ≤ 16 ∧ j = .int .i64 i ∧ Hid (MFour w X Y Z (bc 16 (upto i R)) wr)) (fun i _ => 16 - (intOf i).toNat)
  case atStart =>
    refine ⟨0, by omega, rfl, ?_⟩
    rw [upto_zero, ← HZ.out]
    exact MFour.start w X Y Z Z
  case round =>
    obtain ⟨i, hi, rfl, HR⟩ := hrel
    by_cases hlt : i < 16
    · go_wp2_with fail
      rw [show decide ((i : Int) < 16) = true from decide_eq_true (by omega)]
      go_loopw [7] (fun v w2 => ∃ j : Nat, j ≤ 4 ∧ v = .int .i64 j ∧ Hid (MFour w X Y Z (bc 16 (mrow R C i j)) w2)) (fun i _ => 4 - (intOf i).toNat)
      case atStart =>
        refine ⟨0, by omega, rfl, ?_⟩
        rw [mrow_zero hC0.out]
        exact HR
      case round =>
        obtain ⟨j, hj, rfl, H7⟩ := hrel
        clear HR
        by_cases hlj : j < 4
        · obtain ⟨x, ex⟩ : ∃ x, x = b ((j + 4 - i % 4) % 4) := ⟨_, rfl⟩
          obtain ⟨y, ey⟩ : ∃ y, y = f (i / 4 * 4 + j) := ⟨_, rfl⟩
          obtain ⟨z, ez⟩ : ∃ z, z = T i j := ⟨_, rfl⟩
          obtain ⟨c, ec⟩ : ∃ c, c = C i j := ⟨_, rfl⟩
          have K1 := hide (cT.out i j hlt hlj)
          rw [← ex, ← ey, ← ez] at K1
          obtain ⟨r, er⟩ : ∃ r, r = i % 4 := ⟨_, rfl⟩
          obtain ⟨j4, ej4⟩ : ∃ j4, j4 = j + 4 := ⟨_, rfl⟩
          obtain ⟨u, eu⟩ : ∃ u, u = j4 - r := ⟨_, rfl⟩
          obtain ⟨m, em⟩ : ∃ m, m = u % 4 := ⟨_, rfl⟩
          obtain ⟨k, ek⟩ : ∃ k, k = i / 4 := ⟨_, rfl⟩
          obtain ⟨d, ed⟩ : ∃ d, d = k * 4 := ⟨_, rfl⟩
          obtain ⟨q, eq⟩ : ∃ q, q = d + j := ⟨_, rfl⟩
          have w1 : (i : Int).tmod 4 = (r : Int) := by rw [er]; rfl
          have w2 : IntKind.i64.wrap ((j : Int) + 4) = (j4 : Int) := by rw [IntKind.wrap_i64]; omega
          have w3 : IntKind.i64.wrap ((j4 : Int) - (r : Int)) = (u : Int) := by rw [IntKind.wrap_i64]; omega
          have w4 : (u : Int).tmod 4 = (m : Int) := by rw [em]; rfl
          have w5 : IntKind.i64.wrap ((i : Int) / 4) = (k : Int) := by rw [IntKind.wrap_i64]; omega
          have w6 : IntKind.i64.wrap ((k : Int) * 4) = (d : Int) := by rw [IntKind.wrap_i64]; omega
          have w7 : IntKind.i64.wrap ((d : Int) + (j : Int)) = (q : Int) := by rw [IntKind.wrap_i64]; omega
          have e1 : wr.cell? ⟨w.heap.size + 1, m, none⟩ = some (.int .u8 (x : Nat)) := by
            have := row_cell (by rw [← HY.out]; exact H7.out.2.2.1) m (by omega)
            rw [ex, ← ej4, ← er, ← eu, ← em]; exact this
          have e2 : wr.cell? ⟨w.heap.size, q, none⟩ = some (.int .u8 (y : Nat)) := by
            have := row_cell (by rw [← HX.out]; exact H7.out.2.1) q (by omega)
            rw [ey, ← ek, ← ed, ← eq]; exact this
          have e3 : wr.cell? ⟨w.heap.size + 3, i, none⟩ = some (.int .u8 (c : Nat)) := by
            have := row_cell H7.out.2.2.2.2 i hlt
            rw [mrow_at] at this
            rw [ec]; exact this
          have e4 : wr.frozen? ⟨w.heap.size + 3, i, none⟩ = false := frozen_of_row wr _ _ _ _ H7.out.2.2.2.2
          have HE : Hid (bits .xor .u8 (c : Int) (z : Int) = ((C i (j + 1) : Nat) : Int)) := by rw [ec, ez]; exact hx.out i j hlt hlj
          have i1 : (i : Int) < 16 := by omega
          have i2 : (j : Int) < 4 := by omega
          have i3 : (m : Int) < 4 := by omega
          have i4 : (q : Int) < 16 := by omega
          clear ex ey ez ec er ej4 eu em ek ed eq
          go_wp2_with fail
          refine wp_region_held_drew (S := fun w' => w'.cell? ⟨w.heap.size + 1, m, none⟩ = some (.int .u8 (x : Nat)) ∧ w'.cell? ⟨w.heap.size, q, none⟩ = some (.int .u8 (y : Nat))) (by kernel_rfl) ?_ (fun hHeld => ?_)
          · exact ⟨e1, e2⟩
          refine wpAnyH_take (i := 0) (v := ?_) rfl (by kernel_rfl) (by kernel_rfl) (by kernel_rfl) (fun _ _ _ h => h) (Or.inl ⟨by rfl, ?_⟩) (by assumption) ?_
          rotate_left
          · (intro w hSw; (try dsimp only at hSw); simp only [List.getElem_toArray, List.getElem_cons_zero]; go_simp; try with_reducible rfl)
          simp only [Act.put, List.getElem_toArray, List.getElem_cons_zero, List.setIfInBounds_toArray, List.set_cons_zero, List.set_cons_succ]
          refine wpAnyH_take (i := 1) (v := ?_) rfl (by kernel_rfl) (by kernel_rfl) (by kernel_rfl) (fun _ _ _ h => h) (Or.inl ⟨by rfl, ?_⟩) (by assumption) ?_
          rotate_left
          · (intro w hSw; (try dsimp only at hSw); simp only [List.getElem_toArray, List.getElem_cons_succ, List.getElem_cons_zero]; go_simp; try with_reducible rfl)
          simp only [Act.put, List.getElem_toArray, List.getElem_cons_succ, List.getElem_cons_zero, List.setIfInBounds_toArray, List.set_cons_zero, List.set_cons_succ]
          refine wpAnyH_take (i := 2) (v := ?_) rfl (by kernel_rfl) (by kernel_rfl) (by kernel_rfl) (fun _ _ _ h => h) (Or.inl ⟨by rfl, ?_⟩) (by assumption) ?_
          rotate_left
          · (intro w hSw; (try dsimp only at hSw); simp only [List.getElem_toArray, List.getElem_cons_succ, List.getElem_cons_zero]; go_simp; try with_reducible rfl)
          simp only [Act.put, List.getElem_toArray, List.getElem_cons_succ, List.getElem_cons_zero, List.setIfInBounds_toArray, List.set_cons_zero, List.set_cons_succ]
          refine wpAnyH_take (i := 4) (v := ?_) rfl (by kernel_rfl) (by kernel_rfl) (by kernel_rfl) (fun _ _ _ h => h) (Or.inl ⟨by rfl, ?_⟩) (by assumption) ?_
          rotate_left
          · (intro w hSw; (try dsimp only at hSw); simp only [List.getElem_toArray, List.getElem_cons_succ, List.getElem_cons_zero]; go_simp; try with_reducible rfl)
          simp only [Act.put, List.getElem_toArray, List.getElem_cons_succ, List.getElem_cons_zero, List.setIfInBounds_toArray, List.set_cons_zero, List.set_cons_succ]
          refine wpAnyH_take (i := 5) (v := ?_) rfl (by kernel_rfl) (by kernel_rfl) (by kernel_rfl) (fun _ _ _ h => h) (Or.inl ⟨by rfl, ?_⟩) (by assumption) ?_
          rotate_left
          · (intro w hSw; (try dsimp only at hSw); simp only [List.getElem_toArray, List.getElem_cons_succ, List.getElem_cons_zero]; go_simp; try with_reducible rfl)
          simp only [Act.put, List.getElem_toArray, List.getElem_cons_succ, List.getElem_cons_zero, List.setIfInBounds_toArray, List.set_cons_zero, List.set_cons_succ]
          refine wpAnyH_take (i := 6) (v := ?_) rfl (by kernel_rfl) (by kernel_rfl) (by kernel_rfl) (fun _ _ _ h => h) (Or.inl ⟨by rfl, ?_⟩) (by assumption) ?_
          rotate_left
          · (intro w hSw; (try dsimp only at hSw); simp only [List.getElem_toArray, List.getElem_cons_succ, List.getElem_cons_zero]; go_simp; try with_reducible rfl)
          simp only [Act.put, List.getElem_toArray, List.getElem_cons_succ, List.getElem_cons_zero, List.setIfInBounds_toArray, List.set_cons_zero, List.set_cons_succ]
          refine wpAnyH_take (i := 7) (v := ?_) rfl (by kernel_rfl) (by kernel_rfl) (by kernel_rfl) (fun _ _ _ h => h) (Or.inl ⟨by rfl, ?_⟩) (by assumption) ?_
          rotate_left
          · (intro w hSw; (try dsimp only at hSw); simp only [List.getElem_toArray, List.getElem_cons_succ, List.getElem_cons_zero]; go_simp; try with_reducible rfl)
          simp only [Act.put, List.getElem_toArray, List.getElem_cons_succ, List.getElem_cons_zero, List.setIfInBounds_toArray, List.set_cons_zero, List.set_cons_succ]
          refine wpAnyH_take (i := 8) (v := ?_) rfl (by kernel_rfl) (by kernel_rfl) (by kernel_rfl) (fun _ _ _ h => h) (Or.inl ⟨by rfl, ?_⟩) (by assumption) ?_
          rotate_left
          · (intro w hSw; (try dsimp only at hSw); simp only [List.getElem_toArray, List.getElem_cons_succ, List.getElem_cons_zero]; go_simp; try with_reducible rfl)
          simp only [Act.put, List.getElem_toArray, List.getElem_cons_succ, List.getElem_cons_zero, List.setIfInBounds_toArray, List.set_cons_zero, List.set_cons_succ]
          refine wpAnyH_take (i := 9) (v := ?_) rfl (by kernel_rfl) (by kernel_rfl) (by kernel_rfl) (fun _ _ _ h => h) (Or.inl ⟨by rfl, ?_⟩) (by assumption) ?_
          rotate_left
          · (intro w hSw; (try dsimp only at hSw); simp only [List.getElem_toArray, List.getElem_cons_succ, List.getElem_cons_zero]; go_simp; try with_reducible rfl)
          simp only [Act.put, List.getElem_toArray, List.getElem_cons_succ, List.getElem_cons_zero, List.setIfInBounds_toArray, List.set_cons_zero, List.set_cons_succ]
          refine wpAnyH_take (i := 10) (v := ?_) rfl (by kernel_rfl) (by kernel_rfl) (by kernel_rfl) (fun _ _ _ h => h) (Or.inl ⟨by rfl, ?_⟩) (by assumption) ?_
          rotate_left
          · (intro w hSw; (try dsimp only at hSw); simp only [List.getElem_toArray, List.getElem_cons_succ, List.getElem_cons_zero]; go_simp; try with_reducible rfl)
          simp only [Act.put, List.getElem_toArray, List.getElem_cons_succ, List.getElem_cons_zero, List.setIfInBounds_toArray, List.set_cons_zero, List.set_cons_succ]
          refine wpAnyH_take (i := 11) (v := ?_) rfl (by kernel_rfl) (by kernel_rfl) (by kernel_rfl) (fun _ _ _ h => h) (Or.inl ⟨by rfl, ?_⟩) (by assumption) ?_
          rotate_left
          · (intro w hSw; (try dsimp only at hSw); simp only [List.getElem_toArray, List.getElem_cons_succ, List.getElem_cons_zero]; go_simp; try with_reducible rfl)
          simp only [Act.put, List.getElem_toArray, List.getElem_cons_succ, List.getElem_cons_zero, List.setIfInBounds_toArray, List.set_cons_zero, List.set_cons_succ]
          refine wpAnyH_take (i := 12) (v := ?_) rfl (by kernel_rfl) (by kernel_rfl) (by kernel_rfl) (fun _ _ _ h => h) (Or.inl ⟨by rfl, ?_⟩) (by assumption) ?_
          rotate_left
          · (intro w hSw; (try dsimp only at hSw); simp only [List.getElem_toArray, List.getElem_cons_succ, List.getElem_cons_zero]; go_simp; try with_reducible rfl)
          simp only [Act.put, List.getElem_toArray, List.getElem_cons_succ, List.getElem_cons_zero, List.setIfInBounds_toArray, List.set_cons_zero, List.set_cons_succ]
          refine wpAnyH_take (i := 13) (v := ?_) rfl (by kernel_rfl) (by kernel_rfl) (by kernel_rfl) (fun _ _ _ h => h) (Or.inl ⟨by rfl, ?_⟩) (by assumption) ?_
          rotate_left
          · (intro w hSw; (try dsimp only at hSw); simp only [List.getElem_toArray, List.getElem_cons_succ, List.getElem_cons_zero]; go_simp; try with_reducible rfl)
          simp only [Act.put, List.getElem_toArray, List.getElem_cons_succ, List.getElem_cons_zero, List.setIfInBounds_toArray, List.set_cons_zero, List.set_cons_succ]
          refine wpAnyH_take (i := 14) (v := ?_) rfl (by kernel_rfl) (by kernel_rfl) (by kernel_rfl) (fun _ _ _ h => h) (Or.inl ⟨by rfl, ?_⟩) (by assumption) ?_
          rotate_left
          · (intro w hSw; (try dsimp only at hSw); simp only [List.getElem_toArray, List.getElem_cons_succ, List.getElem_cons_zero]; go_simp; try with_reducible rfl)
          simp only [Act.put, List.getElem_toArray, List.getElem_cons_succ, List.getElem_cons_zero, List.setIfInBounds_toArray, List.set_cons_zero, List.set_cons_succ]
          refine wpAnyH_take (i := 15) (v := ?_) rfl (by kernel_rfl) (by kernel_rfl) (by kernel_rfl) (fun _ _ _ h => h) (Or.inl ⟨by rfl, ?_⟩) (by assumption) ?_
          rotate_left
          · (intro w hSw; (try dsimp only at hSw); simp only [List.getElem_toArray, List.getElem_cons_succ, List.getElem_cons_zero]; go_simp; try with_reducible rfl)
          simp only [Act.put, List.getElem_toArray, List.getElem_cons_succ, List.getElem_cons_zero, List.setIfInBounds_toArray, List.set_cons_zero, List.set_cons_succ]
          refine wpAnyH_take (i := 16) (v := ?_) rfl (by kernel_rfl) (by kernel_rfl) (by kernel_rfl) (fun _ _ _ h => h) (Or.inl ⟨by rfl, ?_⟩) (by assumption) ?_
          rotate_left
          · (intro w hSw; (try dsimp only at hSw); simp only [List.getElem_toArray, List.getElem_cons_succ, List.getElem_cons_zero]; go_simp; try with_reducible rfl)
          simp only [Act.put, List.getElem_toArray, List.getElem_cons_succ, List.getElem_cons_zero, List.setIfInBounds_toArray, List.set_cons_zero, List.set_cons_succ]
          refine wpAnyH_take (i := 17) (v := ?_) rfl (by kernel_rfl) (by kernel_rfl) (by kernel_rfl) (fun _ _ _ h => h) (Or.inl ⟨by rfl, ?_⟩) (by assumption) ?_
          rotate_left
          · (intro w hSw; (try dsimp only at hSw); simp only [List.getElem_toArray, List.getElem_cons_succ, List.getElem_cons_zero]; go_simp; try with_reducible rfl)
          simp only [Act.put, List.getElem_toArray, List.getElem_cons_succ, List.getElem_cons_zero, List.setIfInBounds_toArray, List.set_cons_zero, List.set_cons_succ]
          refine wpAnyH_take (i := 18) (v := ?_) rfl (by kernel_rfl) (by kernel_rfl) (by kernel_rfl) (fun _ _ _ h => h) (Or.inl ⟨by rfl, ?_⟩) (by assumption) ?_
          rotate_left
          · (intro w hSw; (try dsimp only at hSw); simp only [List.getElem_toArray, List.getElem_cons_succ, List.getElem_cons_zero]; go_simp; try with_reducible rfl)
          simp only [Act.put, List.getElem_toArray, List.getElem_cons_succ, List.getElem_cons_zero, List.setIfInBounds_toArray, List.set_cons_zero, List.set_cons_succ]
          refine wpAnyH_ready (rs := [3, 19]) (by kernel_rfl) (by simp) ?_
          refine AllReadyH.cons rfl (fun K hK => ?_) (AllReadyH.cons rfl (fun K hK => ?_) AllReadyH.nil)
          · simp only [List.getElem_toArray, List.getElem_cons_succ, List.getElem_cons_zero]
            go_simp
            refine hK.out _ _ ?_ (fun hHeld => ?_)
            · exact hHeld
            clear hK K
            try simp only [Act.put, List.setIfInBounds_toArray, List.set_cons_zero, List.set_cons_succ]
            refine wpAnyH_ready (rs := [19]) (by kernel_rfl) (by simp) ?_
            refine AllReadyH.cons rfl (fun K hK => ?_) AllReadyH.nil
            simp only [List.getElem_toArray, List.getElem_cons_succ, List.getElem_cons_zero]
            go_simp
            refine (K1.out _).mono ?_
            rintro e w9 ⟨rfl, rfl⟩
            refine hK.out _ _ ?_ (fun hHeld => ?_)
            · exact hHeld
            clear hK K
            try simp only [Act.put, List.setIfInBounds_toArray, List.set_cons_zero, List.set_cons_succ]
            refine wpAnyH_take (i := 20) (v := ?_) rfl (by kernel_rfl) (by kernel_rfl) (by kernel_rfl) (fun _ _ _ h => h) (Or.inl ⟨by rfl, ?_⟩) (by assumption) ?_
            rotate_left
            · (intro w hSw; (try dsimp only at hSw); simp only [List.getElem_toArray, List.getElem_cons_succ, List.getElem_cons_zero]; go_simp; try with_reducible rfl)
            simp only [Act.put, List.getElem_toArray, List.getElem_cons_succ, List.getElem_cons_zero, List.setIfInBounds_toArray, List.set_cons_zero, List.set_cons_succ]
            refine wpAnyH_take (i := 21) (v := ?_) rfl (by kernel_rfl) (by kernel_rfl) (by kernel_rfl) (fun _ _ _ h => h) (Or.inl ⟨by rfl, ?_⟩) (by assumption) ?_
            rotate_left
            · (intro w hSw; (try dsimp only at hSw); simp only [List.getElem_toArray, List.getElem_cons_succ, List.getElem_cons_zero]; go_simp; try with_reducible rfl)
            simp only [Act.put, List.getElem_toArray, List.getElem_cons_succ, List.getElem_cons_zero, List.setIfInBounds_toArray, List.set_cons_zero, List.set_cons_succ]
            refine wpAnyH_ready (rs := [22]) (by kernel_rfl) (by simp) ?_
            refine AllReadyH.cons rfl (fun K hK => ?_) AllReadyH.nil
            simp only [List.getElem_toArray, List.getElem_cons_succ, List.getElem_cons_zero]
            go_simp
            refine hK.out _ _ ?_ (fun hHeld => ?_)
            · exact ⟨far hHeld.1 (by simp), far hHeld.2 (by show w.heap.size ≠ w.heap.size + 3; omega)⟩
            clear hK K
            try simp only [Act.put, List.setIfInBounds_toArray, List.set_cons_zero, List.set_cons_succ]
            refine wpAnyH_done (by kernel_rfl) ?_ _
            go_wp2
            go_roundw
            case rel =>
              refine ⟨j + 1, by omega, by go_num, ?_⟩
              have h1 := (MFour.set H7.out i (.int .u8 (C i (j + 1) : Nat))).drew
              rw [mstep] at h1
              rw [HE.out]
              exact h1
            case measure => simp [intOf]; omega
          · simp only [List.getElem_toArray, List.getElem_cons_succ, List.getElem_cons_zero]
            go_simp
            refine (K1.out _).mono ?_
            rintro e w9 ⟨rfl, rfl⟩
            refine hK.out _ _ ?_ (fun hHeld => ?_)
            · exact hHeld
            clear hK K
            try simp only [Act.put, List.setIfInBounds_toArray, List.set_cons_zero, List.set_cons_succ]
            refine wpAnyH_ready (rs := [3]) (by kernel_rfl) (by simp) ?_
            refine AllReadyH.cons rfl (fun K hK => ?_) AllReadyH.nil
            simp only [List.getElem_toArray, List.getElem_cons_succ, List.getElem_cons_zero]
            go_simp
            refine hK.out _ _ ?_ (fun hHeld => ?_)
            · exact hHeld
            clear hK K
            try simp only [Act.put, List.setIfInBounds_toArray, List.set_cons_zero, List.set_cons_succ]
            refine wpAnyH_take (i := 20) (v := ?_) rfl (by kernel_rfl) (by kernel_rfl) (by kernel_rfl) (fun _ _ _ h => h) (Or.inl ⟨by rfl, ?_⟩) (by assumption) ?_
            rotate_left
            · (intro w hSw; (try dsimp only at hSw); simp only [List.getElem_toArray, List.getElem_cons_succ, List.getElem_cons_zero]; go_simp; try with_reducible rfl)
            simp only [Act.put, List.getElem_toArray, List.getElem_cons_succ, List.getElem_cons_zero, List.setIfInBounds_toArray, List.set_cons_zero, List.set_cons_succ]
            refine wpAnyH_take (i := 21) (v := ?_) rfl (by kernel_rfl) (by kernel_rfl) (by kernel_rfl) (fun _ _ _ h => h) (Or.inl ⟨by rfl, ?_⟩) (by assumption) ?_
            rotate_left
            · (intro w hSw; (try dsimp only at hSw); simp only [List.getElem_toArray, List.getElem_cons_succ, List.getElem_cons_zero]; go_simp; try with_reducible rfl)
            simp only [Act.put, List.getElem_toArray, List.getElem_cons_succ, List.getElem_cons_zero, List.setIfInBounds_toArray, List.set_cons_zero, List.set_cons_succ]
            refine wpAnyH_ready (rs := [22]) (by kernel_rfl) (by simp) ?_
            refine AllReadyH.cons rfl (fun K hK => ?_) AllReadyH.nil
            simp only [List.getElem_toArray, List.getElem_cons_succ, List.getElem_cons_zero]
            go_simp
            refine hK.out _ _ ?_ (fun hHeld => ?_)
            · exact ⟨far hHeld.1 (by simp), far hHeld.2 (by show w.heap.size ≠ w.heap.size + 3; omega)⟩
            clear hK K
            try simp only [Act.put, List.setIfInBounds_toArray, List.set_cons_zero, List.set_cons_succ]
            refine wpAnyH_done (by kernel_rfl) ?_ _
            go_wp2
            go_roundw
            case rel =>
              refine ⟨j + 1, by omega, by go_num, ?_⟩
              have h1 := (MFour.set H7.out i (.int .u8 (C i (j + 1) : Nat))).drew
              rw [mstep] at h1
              rw [HE.out]
              exact h1
            case measure => simp [intOf]; omega
        · obtain rfl : j = 4 := by omega
          go_wp2
          go_roundw
          case rel =>
            refine ⟨i + 1, by omega, by go_num, ?_⟩
            rw [← mrow_all hC4.out]
            exact H7
          case measure => simp [intOf]; omega
    · obtain rfl : i = 16 := by omega
      have RV : Hid (wr.heap[w.heap.size + 1 + 1 + 1]? = some (.cells (bc 16 R).toArray 31 (0, 0))) := by
        have := HR.out.2.2.2.2
        rw [upto_all] at this
        exact this
      have R1 : Hid (wr.heap[w.heap.size + 1 + 1]? = some (.cells Z.toArray 31 (0, 0))) := HR.out.2.2.2.1
      have HB := hide HR.out.1
      clear HR hlt hi
      obtain ⟨V, hV⟩ : ∃ V, V = (bc 16 R).toArray := ⟨_, rfl⟩
      have hVl : V.size = 16 := by rw [hV, List.size_toArray, bc_len]
      have hV1 : Hid (V.all (·.oneCell') = true) := by rw [hV]; exact bc_one _ _
      have HV := hide hV
      have R2 : Hid (wr.heap[w.heap.size + 1 + 1 + 1]? = some (.cells V 31 (0, 0))) := by rw [hV]; exact RV.out
      have hZl : Z.toArray.size = 16 := by rw [HZ.out, List.size_toArray, bc_len]
      clear hV
      go_wp2_with (first
        | (refine wpList_load_row rfl 31 _ rfl (w.heap.size + 1 + 1 + 1) rfl 31 V (0, 0) _ R2.out Tryd.underlying31 rfl (by rw [hVl]; rfl) ?_)
        | (refine wpList_store_row rfl 31 _ _ rfl (w.heap.size + 1 + 1) V rfl rfl 31 Z.toArray R1.out (by rw [hVl]; rfl) (by rw [hZl, hVl]) hV1.out ?_))
      refine bodyPost_ret (v := .agg V) (results_cell_row rfl _ _ (w.heap.size + 1 + 1) 31 V (0, 0) _ rfl (setRow_heap _ _ _ _ _ _ R1.out) Tryd.underlying31 rfl (by rw [hVl]; rfl)) rfl ⟨by rw [HV.out], ?_⟩
      exact below_setRow HB.out (by omega) _
end Go.Proofs.YtlkihbmkekadeaaDoor
