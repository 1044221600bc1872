/- Own: the contract of Round of layer 3; the contract of Last of layer 3; the contract of Unlast of layer 3; the contract of Unround of layer 3 (no statement is proved here). -/
import Derived.Test.YtdfbcdgneboilaaDoorOG2
namespace Go.Proofs.YtdfbcdgneboilaaDoor
open Go.ChangeShapes Go.WideShapes Go.ChangeAt Go.RowKit
set_option maxRecDepth 20000

/-- Four blocks of sixteen bytes that a call has laid. -/
def Four (w : World) (X Y Z O : List Value) (wr : World) : Prop :=
  Below w.heap.size w wr ∧ wr.heap[w.heap.size]? = some (.cells X.toArray 45 (0, 0)) ∧ wr.heap[w.heap.size + 1]? = some (.cells Y.toArray 45 (0, 0)) ∧ wr.heap[w.heap.size + 2]? = some (.cells Z.toArray 45 (0, 0)) ∧ wr.heap[w.heap.size + 3]? = some (.cells O.toArray 45 (0, 0))
theorem Four.start (w : World) (X Y Z O : List Value) : Four w X Y Z O ((((w.alloc (.cells X.toArray 45)).alloc (.cells Y.toArray 45)).alloc (.cells Z.toArray 45)).alloc (.cells O.toArray 45)) := by
  have l : ∀ {w : World} {g : Nat} {x : Obj} (o : Obj), w.heap[g]? = some x → (w.alloc o).heap[g]? = some x := fun {w g x} o e =>
    (((Below.refl w.heap.size w).alloc (Nat.le_refl _) o).block g (Array.getElem?_eq_some_iff.1 e).1).trans e
  have s : ∀ (w : World) (o : Obj), (w.alloc o).heap.size = w.heap.size + 1 := fun w o => by simp
  refine ⟨below_alloc (below_alloc (below_alloc (below_alloc (Below.refl _ _) _) _) _) _, l _ (l _ (l _ (heap_alloc_new _ _))), ?_, ?_, ?_⟩
  · rw [← s w (.cells X.toArray 45)]; exact l _ (l _ (heap_alloc_new _ _))
  · rw [show w.heap.size + 2 = w.heap.size + 1 + 1 from rfl, ← s w (.cells X.toArray 45), ← s _ (.cells Y.toArray 45)]; exact l _ (heap_alloc_new _ _)
  · rw [show w.heap.size + 3 = w.heap.size + 1 + 1 + 1 from rfl, ← s w (.cells X.toArray 45), ← s _ (.cells Y.toArray 45), ← s _ (.cells Z.toArray 45)]; exact heap_alloc_new _ _
theorem Four.drewN {w wr : World} {X Y Z O : List Value} (h : Four w X Y Z O wr) (n : Nat) : Four w X Y Z O (wr.drewN n) := ⟨below_drewN h.1 n, h.2⟩
theorem Four.drew {w wr : World} {X Y Z O : List Value} (h : Four w X Y Z O wr) : Four w X Y Z O wr.drew := ⟨h.1.drew, h.2⟩
theorem Four.later {w wr w' : World} {X Y Z O : List Value} (h : Four w X Y Z O wr) (hb : Below wr.heap.size wr w') : Four w X Y Z O w' := by
  obtain ⟨b, h1, h2, h3, h4⟩ := h
  have l : ∀ {g : Nat} {o : Obj}, wr.heap[g]? = some o → w'.heap[g]? = some o := fun {g o} e => (hb.block g (Array.getElem?_eq_some_iff.1 e).1).trans e
  exact ⟨below_two b hb, l h1, l h2, l h3, l h4⟩
theorem Four.set {w wr : World} {X Y Z O : List Value} (h : Four w X Y Z O wr) (i : Nat) (v : Value) : Four w X Y Z (O.set i v) (wr.setCell ⟨w.heap.size + 3, i, none⟩ v) := by
  obtain ⟨b, h1, h2, h3, h4⟩ := h
  refine ⟨b.setCell (by show w.heap.size ≤ w.heap.size + 3; omega) _, ?_, ?_, ?_, ?_⟩
  · rw [heap_setCell_other _ _ _ _ (by simp)]; exact h1
  · rw [heap_setCell_other _ _ _ _ (by simp)]; exact h2
  · rw [heap_setCell_other _ _ _ _ (by simp)]; exact h3
  · rw [heap_setCell_same _ _ _ _ _ _ h4, List.setIfInBounds_toArray]
theorem Four.other {w wr : World} {X Y Z O : List Value} (h : Four w X Y Z O wr) (g i : Nat) (v : Value) (hg : w.heap.size + 3 < g) : Four w X Y Z O (wr.setCell ⟨g, i, none⟩ v) := by
  obtain ⟨b, h1, h2, h3, h4⟩ := h
  refine ⟨b.setCell (by show w.heap.size ≤ g; omega) _, ?_, ?_, ?_, ?_⟩
  · rw [heap_setCell_other _ _ _ _ (by simp; omega)]; exact h1
  · rw [heap_setCell_other _ _ _ _ (by simp; omega)]; exact h2
  · rw [heap_setCell_other _ _ _ _ (by simp; omega)]; exact h3
  · rw [heap_setCell_other _ _ _ _ (by simp; omega)]; exact h4

/-- A new variable, laid whole. -/
theorem new_row (w : World) (Z A : Array Value) (t : TypeId) : Below w.heap.size w ((w.alloc (.cells Z t)).setRow w.heap.size A) ∧ ((w.alloc (.cells Z t)).setRow w.heap.size A).heap[w.heap.size]? = some (.cells A t (0, 0)) :=
  ⟨below_setRow (below_alloc (Below.refl _ _) _) (Nat.le_refl _) _, setRow_heap _ _ _ _ _ _ (heap_alloc_new _ _)⟩
theorem Four.size {w wr : World} {X Y Z O : List Value} (h : Four w X Y Z O wr) : w.heap.size + 3 < wr.heap.size := (Array.getElem?_eq_some_iff.1 h.2.2.2.2).1
theorem Four.cell {w wr : World} {X Y Z O : List Value} (h : Four w X Y Z O wr) (i : Nat) (hi : i < O.length) : ∃ v, wr.cell? ⟨w.heap.size + 3, i, none⟩ = some v ∧ wr.frozen? ⟨w.heap.size + 3, i, none⟩ = false :=
  ⟨O[i], by rw [cell_of_row wr _ _ _ _ _ h.2.2.2.2]; simp [hi], frozen_of_row wr _ _ _ _ h.2.2.2.2⟩

set_option linter.unusedSimpArgs false in
set_option maxRecDepth 100000 in
set_option maxHeartbeats 4000000 in
theorem round_core (g : Nat) (f k R : Nat → Nat) (m P : Nat → Nat → Nat) (w : World) (hf : Hid (∀ i, f i < 256)) (hk : Hid (∀ i, k i < 256))
    (hP : Hid (∀ n i, P n i < 256))
    (hm : Hid (∀ r a, r < 4 → a < 256 → m r a < 4294967296))
    (hT : Hid (∀ w', Below w.heap.size w w' → ∀ r a, r < 4 → a < 256 → w'.cell? ⟨g, 512 + r * 256 + a, none⟩ = some (.int .u32 (m r a : Nat))))
    (cP : Hid (∀ n, n < 4294967296 → ∀ w, Calls Tryd.prog 47 #[.int .u32 (n : Nat)] w fun e w' => e = .returned (.agg (bc 4 (P n)).toArray) ∧ Below w.heap.size w w'))
    (hR : Hid (∀ c r, c < 4 → r < 4 → P (colx (fun r => m r (f (shf c r))) 4) r ^^^ k (4 * c + r) = R (4 * c + r))) :
    Calls Tryd.prog 50 #[.pointer (some ⟨g, 0, none⟩), .agg (bc 16 f).toArray, .agg (bc 16 k).toArray] w fun e w' => e = .returned (.agg (bc 16 R).toArray) ∧ Below w.heap.size w w' := by
  obtain ⟨X, hX⟩ : ∃ X, X = bc 16 f := ⟨_, rfl⟩
  obtain ⟨Y, hY⟩ : ∃ Y, Y = bc 16 k := ⟨_, rfl⟩
  obtain ⟨Z, hZ⟩ : ∃ Z, Z = bc 16 (fun _ => 0) := ⟨_, rfl⟩
  have hz := zero16
  rw [← hX, ← hY]
  rw [← hZ] at hz
  have HX := hide hX
  have HY := hide hY
  have HZ := hide hZ
  clear hX hY hZ
  go_enter Tryd.func50, Tryd.ntmps50
  go_wp2
  clear hz
  go_loopw [16] (fun i wr => ∃ c : Nat, c ≤ 4 ∧ i = .int .i64 c ∧ Hid (Four w X Y Z (bc 16 (upto (4 * c) R)) wr)) (fun i _ => 4 - (intOf i).toNat)
  case atStart =>
    refine ⟨0, by omega, rfl, ?_⟩
    rw [Nat.mul_zero, upto_zero, ← HZ.out]
    exact Four.start w X Y Z Z
  case round =>
    obtain ⟨c, hc, rfl, HR⟩ := hrel
    by_cases hlt : c < 4
    · go_wp2_with fail
      go_loopw [19, 9] (fun i s w2 => ∃ r : Nat, r ≤ 4 ∧ i = .int .i64 r ∧ s = .int .u32 (colx (fun r => m r (f (shf c r))) r : Nat) ∧ Hid (Four w X Y Z (bc 16 (upto (4 * c) R)) w2)) (fun i _ _ => 4 - (intOf i).toNat)
      case atStart => exact ⟨0, by omega, rfl, rfl, HR⟩
      case round =>
        obtain ⟨r, hr, rfl, rfl, H2⟩ := hrel
        by_cases hlr : r < 4
        · obtain ⟨q, hq⟩ : ∃ q, q = shf c r := ⟨_, rfl⟩
          have hq16 : q < 16 := by rw [hq]; exact shf_lt c r hlt hlr
          obtain ⟨y, hy⟩ : ∃ y, y = f q := ⟨_, rfl⟩
          have hy256 : y < 256 := by rw [hy]; exact hf.out q
          obtain ⟨t, ht⟩ : ∃ t, t = m r y := ⟨_, rfl⟩
          have ht32 : t < 4294967296 := by rw [ht]; exact hm.out r y hlr hy256
          obtain ⟨s, hs⟩ : ∃ s, s = colx (fun r => m r (f (shf c r))) r := ⟨_, rfl⟩
          have hs32 : s < 4294967296 := by
            rw [hs]; exact colx_lt _ _ fun r' hr' => hm.out r' _ (by omega) (hf.out _)
          have e1 : wr.cell? ⟨w.heap.size, q, none⟩ = some (.int .u8 (y : Nat)) := by
            have := row_cell (by rw [← HX.out]; exact H2.out.2.1) q hq16
            rw [hy]; exact this
          have e2 : wr.cell? ⟨g, 512 + r * 256 + y, none⟩ = some (.int .u32 (t : Nat)) := by rw [ht]; exact hT.out wr H2.out.1 r y hlr hy256
          have K1 : Hid (∀ w, Calls Tryd.prog 51 #[.int .i64 c, .int .i64 r] w fun e w' => e = .returned (.int .i64 (q : Nat)) ∧ w' = w) := by rw [hq]; exact fun w => shifted_any c r hlt hlr w
          have hx : Hid (bits .xor .u32 (s : Int) (t : Int) = ((colx (fun r => m r (f (shf c r))) (r + 1) : Nat) : Int)) := by
            show _ = _
            rw [xor_u32 s t hs32 ht32, colx, hs, ht, hy, hq]
          rw [← hs]
          have i1 : (q : Int) < 16 := by omega
          have i2 : (y : Int) < 256 := by omega
          have i3 : (r : Int) < 4 := by omega
          have HS := hide hs
          clear hq hy ht hs HR hq16 hy256 ht32 hs32
          go_wp2_with fail
          go_quiet ((go_at_call 51; exact Calls.quiet_of_same (K1.out _)))
          go_wp2
          go_roundw
          case rel => exact ⟨r + 1, by omega, by go_num, by rw [hx.out], H2.out.drewN _⟩
          case measure => simp [intOf]; omega
        · obtain rfl : r = 4 := by omega
          obtain ⟨s, hs⟩ : ∃ s, s = colx (fun r => m r (f (shf c r))) 4 := ⟨_, rfl⟩
          have hs32 : s < 4294967296 := by
            rw [hs]; exact colx_lt _ _ fun r' hr' => hm.out r' _ (by omega) (hf.out _)
          rw [← hs]
          have K1 := hide (cP.out s hs32)
          have HS := hide hs
          clear HR hs32 hs
          go_wp2_with fail
          refine (K1.out _).mono ?_
          rintro e w3 ⟨rfl, b3⟩
          have H3 := hide (H2.out.later b3)
          have hz4 := zero4
          obtain ⟨Z4, hZ4⟩ : ∃ Z4, Z4 = bc 4 (fun _ => 0) := ⟨_, rfl⟩
          rw [← hZ4] at hz4
          have hZl : Z4.toArray.size = 4 := by rw [hZ4, List.size_toArray, bc_len]
          obtain ⟨A, hA⟩ : ∃ A, A = bc 4 (P s) := ⟨_, rfl⟩
          rw [← hA]
          have hAl : A.toArray.size = 4 := by rw [hA, List.size_toArray, bc_len]
          have hA1 : Hid (A.toArray.all (·.oneCell') = true) := by rw [hA]; exact bc_one _ _
          have HA := hide hA
          clear hZ4 b3 H2 hA
          go_wp2_with (refine wpList_store_row rfl 62 _ _ rfl w3.heap.size A.toArray rfl rfl 62 _ (heap_alloc_new _ _) (by rw [hAl]; rfl) (by rw [hAl, hZl]) hA1.out ?_)
          obtain ⟨nb, nr⟩ := new_row w3 Z4.toArray A.toArray 62
          have H4 := hide (H3.out.later nb)
          have H5 := hide nr
          have H6 := hide H3.out.size
          obtain ⟨g4, hg4⟩ : ∃ g4, g4 = w3.heap.size := ⟨_, rfl⟩
          obtain ⟨W, hW⟩ : ∃ W, W = (w3.alloc (.cells Z4.toArray 62)).setRow w3.heap.size A.toArray := ⟨_, rfl⟩
          rw [← hW] at H4 H5 ⊢
          rw [← hg4] at H5 H6 ⊢
          clear hz4 hZl hAl hA1 H3 nb nr hg4 hW K1
          go_loopw [39] (fun i wq => ∃ r : Nat, r ≤ 4 ∧ i = .int .i64 r ∧ Hid (Four w X Y Z (bc 16 (upto (4 * c + r) R)) wq ∧ wq.heap[g4]? = some (.cells A.toArray 62 (0, 0)))) (fun i _ => 4 - (intOf i).toNat)
          case atStart => exact ⟨0, by omega, rfl, H4.out, H5.out⟩
          case round =>
            obtain ⟨r, hr2, rfl, H7⟩ := hrel
            clear H4 H5
            by_cases hlr2 : r < 4
            · obtain ⟨x, hx⟩ : ∃ x, x = P s r := ⟨_, rfl⟩
              obtain ⟨y, hy⟩ : ∃ y, y = k (4 * c + r) := ⟨_, rfl⟩
              have e1 : wr.cell? ⟨g4, r, none⟩ = some (.int .u8 (x : Nat)) := by
                have := row_cell (by rw [← HA.out]; exact H7.out.2) r hlr2
                rw [hx]; exact this
              obtain ⟨d, hd⟩ : ∃ d, d = 4 * c := ⟨_, rfl⟩
              obtain ⟨j, hj⟩ : ∃ j, j = d + r := ⟨_, rfl⟩
              have w1 : IntKind.i64.wrap (4 * (c : Int)) = (d : Int) := by rw [IntKind.wrap_i64]; omega
              have w2 : IntKind.i64.wrap ((d : Int) + (r : Int)) = (j : Int) := by rw [IntKind.wrap_i64]; omega
              have hj4 : j = 4 * c + r := by omega
              rw [← hj4] at hy H7
              have e2 : wr.cell? ⟨w.heap.size + 1, j, none⟩ = some (.int .u8 (y : Nat)) := by
                have := row_cell (by rw [← HY.out]; exact H7.out.1.2.2.1) j (by omega)
                rw [hy]; exact this
              obtain ⟨o, e3, e4⟩ := H7.out.1.cell j (by rw [bc_len]; omega)
              have hg4 := H6.out
              have HE : Hid (bits .xor .u8 (x : Int) (y : Int) = ((R j : Nat) : Int)) := by
                show _ = _
                rw [xor_u8 x y (by rw [hx]; exact hP.out _ _) (by rw [hy]; exact hk.out _), hx, hy, HS.out, hj4, hR.out c r hlt hlr2]
              have i1 : (r : Int) < 4 := by omega
              have i2 : (j : Int) < 16 := by omega
              have HJ := hide hj4
              clear hx hy hd hj hj4
              go_wp2_with fail
              refine wp_region_held_drew (S := fun w' => w'.cell? ⟨g4, r, none⟩ = some (.int .u8 (x : Nat)) ∧ w'.cell? ⟨w.heap.size + 1, j, none⟩ = some (.int .u8 (y : Nat))) (by kernel_rfl) ?_ (fun hHeld => ?_)
              · exact ⟨e1, e2⟩
              refine wpAnyH_take (i := 0) (v := ?_) rfl (by kernel_rfl) (by kernel_rfl) (by kernel_rfl) (fun _ _ _ h => h) (Or.inl ⟨by rfl, ?_⟩) (by assumption) ?_
              rotate_left
              · (intro w hSw; (try dsimp only at hSw); simp only [List.getElem_toArray, List.getElem_cons_zero]; go_simp; try with_reducible rfl)
              simp only [Act.put, List.getElem_toArray, List.getElem_cons_zero, List.setIfInBounds_toArray, List.set_cons_zero, List.set_cons_succ]
              refine wpAnyH_take (i := 1) (v := ?_) rfl (by kernel_rfl) (by kernel_rfl) (by kernel_rfl) (fun _ _ _ h => h) (Or.inl ⟨by rfl, ?_⟩) (by assumption) ?_
              rotate_left
              · (intro w hSw; (try dsimp only at hSw); simp only [List.getElem_toArray, List.getElem_cons_succ, List.getElem_cons_zero]; go_simp; try with_reducible rfl)
              simp only [Act.put, List.getElem_toArray, List.getElem_cons_succ, List.getElem_cons_zero, List.setIfInBounds_toArray, List.set_cons_zero, List.set_cons_succ]
              refine wpAnyH_take (i := 2) (v := ?_) rfl (by kernel_rfl) (by kernel_rfl) (by kernel_rfl) (fun _ _ _ h => h) (Or.inl ⟨by rfl, ?_⟩) (by assumption) ?_
              rotate_left
              · (intro w hSw; (try dsimp only at hSw); simp only [List.getElem_toArray, List.getElem_cons_succ, List.getElem_cons_zero]; go_simp; try with_reducible rfl)
              simp only [Act.put, List.getElem_toArray, List.getElem_cons_succ, List.getElem_cons_zero, List.setIfInBounds_toArray, List.set_cons_zero, List.set_cons_succ]
              refine wpAnyH_take (i := 3) (v := ?_) rfl (by kernel_rfl) (by kernel_rfl) (by kernel_rfl) (fun _ _ _ h => h) (Or.inl ⟨by rfl, ?_⟩) (by assumption) ?_
              rotate_left
              · (intro w hSw; (try dsimp only at hSw); simp only [List.getElem_toArray, List.getElem_cons_succ, List.getElem_cons_zero]; go_simp; try with_reducible rfl)
              simp only [Act.put, List.getElem_toArray, List.getElem_cons_succ, List.getElem_cons_zero, List.setIfInBounds_toArray, List.set_cons_zero, List.set_cons_succ]
              refine wpAnyH_take (i := 4) (v := ?_) rfl (by kernel_rfl) (by kernel_rfl) (by kernel_rfl) (fun _ _ _ h => h) (Or.inl ⟨by rfl, ?_⟩) (by assumption) ?_
              rotate_left
              · (intro w hSw; (try dsimp only at hSw); simp only [List.getElem_toArray, List.getElem_cons_succ, List.getElem_cons_zero]; go_simp; try with_reducible rfl)
              simp only [Act.put, List.getElem_toArray, List.getElem_cons_succ, List.getElem_cons_zero, List.setIfInBounds_toArray, List.set_cons_zero, List.set_cons_succ]
              refine wpAnyH_take (i := 5) (v := ?_) rfl (by kernel_rfl) (by kernel_rfl) (by kernel_rfl) (fun _ _ _ h => h) (Or.inl ⟨by rfl, ?_⟩) (by assumption) ?_
              rotate_left
              · (intro w hSw; (try dsimp only at hSw); simp only [List.getElem_toArray, List.getElem_cons_succ, List.getElem_cons_zero]; go_simp; try with_reducible rfl)
              simp only [Act.put, List.getElem_toArray, List.getElem_cons_succ, List.getElem_cons_zero, List.setIfInBounds_toArray, List.set_cons_zero, List.set_cons_succ]
              refine wpAnyH_take (i := 6) (v := ?_) rfl (by kernel_rfl) (by kernel_rfl) (by kernel_rfl) (fun _ _ _ h => h) (Or.inl ⟨by rfl, ?_⟩) (by assumption) ?_
              rotate_left
              · (intro w hSw; (try dsimp only at hSw); simp only [List.getElem_toArray, List.getElem_cons_succ, List.getElem_cons_zero]; go_simp; try with_reducible rfl)
              simp only [Act.put, List.getElem_toArray, List.getElem_cons_succ, List.getElem_cons_zero, List.setIfInBounds_toArray, List.set_cons_zero, List.set_cons_succ]
              refine wpAnyH_take (i := 7) (v := ?_) rfl (by kernel_rfl) (by kernel_rfl) (by kernel_rfl) (fun _ _ _ h => h) (Or.inl ⟨by rfl, ?_⟩) (by assumption) ?_
              rotate_left
              · (intro w hSw; (try dsimp only at hSw); simp only [List.getElem_toArray, List.getElem_cons_succ, List.getElem_cons_zero]; go_simp; try with_reducible rfl)
              simp only [Act.put, List.getElem_toArray, List.getElem_cons_succ, List.getElem_cons_zero, List.setIfInBounds_toArray, List.set_cons_zero, List.set_cons_succ]
              refine wpAnyH_take (i := 8) (v := ?_) rfl (by kernel_rfl) (by kernel_rfl) (by kernel_rfl) (fun _ _ _ h => h) (Or.inl ⟨by rfl, ?_⟩) (by assumption) ?_
              rotate_left
              · (intro w hSw; (try dsimp only at hSw); simp only [List.getElem_toArray, List.getElem_cons_succ, List.getElem_cons_zero]; go_simp; try with_reducible rfl)
              simp only [Act.put, List.getElem_toArray, List.getElem_cons_succ, List.getElem_cons_zero, List.setIfInBounds_toArray, List.set_cons_zero, List.set_cons_succ]
              refine wpAnyH_take (i := 9) (v := ?_) rfl (by kernel_rfl) (by kernel_rfl) (by kernel_rfl) (fun _ _ _ h => h) (Or.inl ⟨by rfl, ?_⟩) (by assumption) ?_
              rotate_left
              · (intro w hSw; (try dsimp only at hSw); simp only [List.getElem_toArray, List.getElem_cons_succ, List.getElem_cons_zero]; go_simp; try with_reducible rfl)
              simp only [Act.put, List.getElem_toArray, List.getElem_cons_succ, List.getElem_cons_zero, List.setIfInBounds_toArray, List.set_cons_zero, List.set_cons_succ]
              refine wpAnyH_take (i := 10) (v := ?_) rfl (by kernel_rfl) (by kernel_rfl) (by kernel_rfl) (fun _ _ _ h => h) (Or.inl ⟨by rfl, ?_⟩) (by assumption) ?_
              rotate_left
              · (intro w hSw; (try dsimp only at hSw); simp only [List.getElem_toArray, List.getElem_cons_succ, List.getElem_cons_zero]; go_simp; try with_reducible rfl)
              simp only [Act.put, List.getElem_toArray, List.getElem_cons_succ, List.getElem_cons_zero, List.setIfInBounds_toArray, List.set_cons_zero, List.set_cons_succ]
              refine wpAnyH_take (i := 11) (v := ?_) rfl (by kernel_rfl) (by kernel_rfl) (by kernel_rfl) (fun _ _ _ h => h) (Or.inl ⟨by rfl, ?_⟩) (by assumption) ?_
              rotate_left
              · (intro w hSw; (try dsimp only at hSw); simp only [List.getElem_toArray, List.getElem_cons_succ, List.getElem_cons_zero]; go_simp; try with_reducible rfl)
              simp only [Act.put, List.getElem_toArray, List.getElem_cons_succ, List.getElem_cons_zero, List.setIfInBounds_toArray, List.set_cons_zero, List.set_cons_succ]
              refine wpAnyH_take (i := 12) (v := ?_) rfl (by kernel_rfl) (by kernel_rfl) (by kernel_rfl) (fun _ _ _ h => h) (Or.inl ⟨by rfl, ?_⟩) (by assumption) ?_
              rotate_left
              · (intro w hSw; (try dsimp only at hSw); simp only [List.getElem_toArray, List.getElem_cons_succ, List.getElem_cons_zero]; go_simp; try with_reducible rfl)
              simp only [Act.put, List.getElem_toArray, List.getElem_cons_succ, List.getElem_cons_zero, List.setIfInBounds_toArray, List.set_cons_zero, List.set_cons_succ]
              refine wpAnyH_take (i := 13) (v := ?_) rfl (by kernel_rfl) (by kernel_rfl) (by kernel_rfl) (fun _ _ _ h => h) (Or.inl ⟨by rfl, ?_⟩) (by assumption) ?_
              rotate_left
              · (intro w hSw; (try dsimp only at hSw); simp only [List.getElem_toArray, List.getElem_cons_succ, List.getElem_cons_zero]; go_simp; try with_reducible rfl)
              simp only [Act.put, List.getElem_toArray, List.getElem_cons_succ, List.getElem_cons_zero, List.setIfInBounds_toArray, List.set_cons_zero, List.set_cons_succ]
              refine wpAnyH_take (i := 14) (v := ?_) rfl (by kernel_rfl) (by kernel_rfl) (by kernel_rfl) (fun _ _ _ h => h) (Or.inl ⟨by rfl, ?_⟩) (by assumption) ?_
              rotate_left
              · (intro w hSw; (try dsimp only at hSw); simp only [List.getElem_toArray, List.getElem_cons_succ, List.getElem_cons_zero]; go_simp; try with_reducible rfl)
              simp only [Act.put, List.getElem_toArray, List.getElem_cons_succ, List.getElem_cons_zero, List.setIfInBounds_toArray, List.set_cons_zero, List.set_cons_succ]
              refine wpAnyH_ready (rs := [15]) (by kernel_rfl) (by simp) ?_
              refine AllReadyH.cons rfl (fun K hK => ?_) AllReadyH.nil
              simp only [List.getElem_toArray, List.getElem_cons_succ, List.getElem_cons_zero]
              go_simp
              refine hK.out _ _ ?_ (fun hHeld => ?_)
              · exact ⟨far hHeld.1 (by simpa using (show g4 ≠ w.heap.size + 3 by omega)), far hHeld.2 (by simp)⟩
              clear hK K
              try simp only [Act.put, List.setIfInBounds_toArray, List.set_cons_zero, List.set_cons_succ]
              refine wpAnyH_done (by kernel_rfl) ?_ _
              go_wp2
              go_roundw
              case rel =>
                refine ⟨r + 1, by omega, by go_num, ?_⟩
                have h1 := (H7.out.1.set j (.int .u8 (R j : Nat))).drew
                rw [upto_set] at h1
                rw [HE.out, show 4 * c + (r + 1) = j + 1 by rw [HJ.out]; omega]
                refine ⟨h1, ?_⟩
                show (wr.setCell _ _).heap[g4]? = _
                rw [heap_setCell_other _ _ _ _ (by simp; omega)]; exact H7.out.2
              case measure => simp [intOf]; omega
            · obtain rfl : r = 4 := by omega
              go_wp2
              go_roundw
              case rel => exact ⟨c + 1, by omega, by go_num, H7.out.1⟩
              case measure => simp [intOf]; omega
    · obtain rfl : c = 4 := by omega
      have HF : Hid (Four w X Y Z (bc 16 R) wr) := by
        have := HR.out
        rw [show 4 * 4 = 16 from rfl, upto_all] at this
        exact this
      clear HR hlt hc
      obtain ⟨V, hV⟩ : ∃ V, V = (bc 16 R).toArray := ⟨_, rfl⟩
      have hVl : V.size = 16 := by rw [hV, List.size_toArray, bc_len]
      have hV1 : Hid (V.all (·.oneCell') = true) := by rw [hV]; exact bc_one _ _
      have HV := hide hV
      have R2 : Hid (wr.heap[w.heap.size + 1 + 1 + 1]? = some (.cells V 45 (0, 0))) := by rw [hV]; exact HF.out.2.2.2.2
      have R1 : Hid (wr.heap[w.heap.size + 1 + 1]? = some (.cells Z.toArray 45 (0, 0))) := HF.out.2.2.2.1
      have hZl : Z.toArray.size = 16 := by rw [HZ.out, List.size_toArray, bc_len]
      clear hV
      go_wp2_with (first
        | (refine wpList_load_row rfl 45 _ rfl (w.heap.size + 1 + 1 + 1) rfl 45 V (0, 0) _ R2.out Tryd.underlying45 rfl (by rw [hVl]; rfl) ?_)
        | (refine wpList_store_row rfl 45 _ _ rfl (w.heap.size + 1 + 1) V rfl rfl 45 Z.toArray R1.out (by rw [hVl]; rfl) (by rw [hZl, hVl]) hV1.out ?_))
      refine bodyPost_ret (v := .agg V) (results_cell_row rfl _ _ (w.heap.size + 1 + 1) 45 V (0, 0) _ rfl (setRow_heap _ _ _ _ _ _ R1.out) Tryd.underlying45 rfl (by rw [hVl]; rfl)) rfl ⟨by rw [HV.out], ?_⟩
      exact below_setRow HF.out.1 (by omega) _
end Go.Proofs.YtdfbcdgneboilaaDoor
namespace Go.Proofs.YtdfbcdgneboilaaDoor
open Go.ChangeShapes Go.WideShapes Go.ChangeAt Go.RowKit
set_option maxRecDepth 20000

set_option linter.unusedSimpArgs false in
set_option maxRecDepth 100000 in
set_option maxHeartbeats 4000000 in
theorem last_core (g : Nat) (f k R b : Nat → Nat) (w : World) (hf : Hid (∀ i, f i < 256)) (hk : Hid (∀ i, k i < 256)) (hb : Hid (∀ a, a < 256 → b a < 256)) (hgw : g < w.heap.size)
    (hT : Hid (∀ w', Below w.heap.size w w' → ∀ a, a < 256 → w'.cell? ⟨g, a, none⟩ = some (.int .u8 (b a : Nat))))
    (hR : Hid (∀ c r, c < 4 → r < 4 → b (f (shf c r)) ^^^ k (4 * c + r) = R (4 * c + r))) :
    Calls Tryd.prog 33 #[.pointer (some ⟨g, 0, none⟩), .agg (bc 16 f).toArray, .agg (bc 16 k).toArray] w fun e w' => e = .returned (.agg (bc 16 R).toArray) ∧ Below w.heap.size w w' := by
  obtain ⟨X, hX⟩ : ∃ X, X = bc 16 f := ⟨_, rfl⟩
  obtain ⟨Y, hY⟩ : ∃ Y, Y = bc 16 k := ⟨_, rfl⟩
  obtain ⟨Z, hZ⟩ : ∃ Z, Z = bc 16 (fun _ => 0) := ⟨_, rfl⟩
  have hz := zero16
  rw [← hX, ← hY]
  rw [← hZ] at hz
  have HX := hide hX
  have HY := hide hY
  have HZ := hide hZ
  clear hX hY hZ
  go_enter Tryd.func33, Tryd.ntmps33
  go_wp2
  clear hz
  go_loopw [13] (fun i wr => ∃ c : Nat, c ≤ 4 ∧ i = .int .i64 c ∧ Hid (Four w X Y Z (bc 16 (upto (4 * c) R)) wr)) (fun i _ => 4 - (intOf i).toNat)
  case atStart =>
    refine ⟨0, by omega, rfl, ?_⟩
    rw [Nat.mul_zero, upto_zero, ← HZ.out]
    exact Four.start w X Y Z Z
  case round =>
    obtain ⟨c, hc, rfl, HR⟩ := hrel
    by_cases hlt : c < 4
    · go_wp2_with fail
      rw [show decide ((c : Int) < 4) = true from decide_eq_true (by omega)]
      go_loopw [16] (fun i w2 => ∃ r : Nat, r ≤ 4 ∧ i = .int .i64 r ∧ Hid (Four w X Y Z (bc 16 (upto (4 * c + r) R)) w2)) (fun i _ => 4 - (intOf i).toNat)
      case atStart => exact ⟨0, by omega, rfl, HR⟩
      case round =>
        obtain ⟨r, hr, rfl, H7⟩ := hrel
        clear HR
        by_cases hlr : r < 4
        · obtain ⟨q, hq⟩ : ∃ q, q = shf c r := ⟨_, rfl⟩
          have hq16 : q < 16 := by rw [hq]; exact shf_lt c r hlt hlr
          obtain ⟨y, hy⟩ : ∃ y, y = f q := ⟨_, rfl⟩
          have hy256 : y < 256 := by rw [hy]; exact hf.out q
          obtain ⟨t, ht⟩ : ∃ t, t = b y := ⟨_, rfl⟩
          have ht256 : t < 256 := by rw [ht]; exact hb.out y hy256
          obtain ⟨d, hd⟩ : ∃ d, d = 4 * c := ⟨_, rfl⟩
          obtain ⟨j, hj⟩ : ∃ j, j = d + r := ⟨_, rfl⟩
          have w1 : IntKind.i64.wrap (4 * (c : Int)) = (d : Int) := by rw [IntKind.wrap_i64]; omega
          have w2 : IntKind.i64.wrap ((d : Int) + (r : Int)) = (j : Int) := by rw [IntKind.wrap_i64]; omega
          have hj4 : j = 4 * c + r := by omega
          rw [← hj4] at H7
          obtain ⟨z, hzz⟩ : ∃ z, z = k j := ⟨_, rfl⟩
          have hz256 : z < 256 := by rw [hzz]; exact hk.out j
          have e1 : wr.cell? ⟨w.heap.size, q, none⟩ = some (.int .u8 (y : Nat)) := by
            have := row_cell (by rw [← HX.out]; exact H7.out.2.1) q hq16
            rw [hy]; exact this
          have e2 : wr.cell? ⟨g, y, none⟩ = some (.int .u8 (t : Nat)) := by rw [ht]; exact hT.out wr H7.out.1 y hy256
          have e5 : wr.cell? ⟨w.heap.size + 1, j, none⟩ = some (.int .u8 (z : Nat)) := by
            have := row_cell (by rw [← HY.out]; exact H7.out.2.2.1) j (by omega)
            rw [hzz]; exact this
          obtain ⟨o, e3, e4⟩ := H7.out.cell j (by rw [bc_len]; omega)
          have K1 : Hid (∀ w, Calls Tryd.prog 51 #[.int .i64 c, .int .i64 r] w fun e w' => e = .returned (.int .i64 (q : Nat)) ∧ w' = w) := by rw [hq]; exact fun w => shifted_any c r hlt hlr w
          have HE : Hid (bits .xor .u8 (t : Int) (z : Int) = ((R j : Nat) : Int)) := by
            show _ = _
            rw [xor_u8 t z ht256 hz256, ht, hzz, hy, hq, hj4, hR.out c r hlt hlr]
          have i1 : (q : Int) < 16 := by omega
          have i2 : (y : Int) < 256 := by omega
          have i3 : (r : Int) < 4 := by omega
          have i4 : (j : Int) < 16 := by omega
          have HJ := hide hj4
          clear hq hy ht hzz hd hj hj4 hq16 hy256 ht256 hz256
          go_wp2_with fail
          refine wp_region_held_drew (S := fun w' => w'.cell? ⟨w.heap.size, q, none⟩ = some (.int .u8 (y : Nat)) ∧ w'.cell? ⟨g, y, none⟩ = some (.int .u8 (t : Nat)) ∧ w'.cell? ⟨w.heap.size + 1, j, none⟩ = some (.int .u8 (z : Nat))) (by kernel_rfl) ?_ (fun hHeld => ?_)
          · exact ⟨e1, e2, e5⟩
          refine wpAnyH_take (i := 0) (v := ?_) rfl (by kernel_rfl) (by kernel_rfl) (by kernel_rfl) (fun _ _ _ h => h) (Or.inl ⟨by rfl, ?_⟩) (by assumption) ?_
          rotate_left
          · (intro w hSw; (try dsimp only at hSw); simp only [List.getElem_toArray, List.getElem_cons_zero]; go_simp; try with_reducible rfl)
          simp only [Act.put, List.getElem_toArray, List.getElem_cons_zero, List.setIfInBounds_toArray, List.set_cons_zero, List.set_cons_succ]
          refine wpAnyH_take (i := 1) (v := ?_) rfl (by kernel_rfl) (by kernel_rfl) (by kernel_rfl) (fun _ _ _ h => h) (Or.inl ⟨by rfl, ?_⟩) (by assumption) ?_
          rotate_left
          · (intro w hSw; (try dsimp only at hSw); simp only [List.getElem_toArray, List.getElem_cons_succ, List.getElem_cons_zero]; go_simp; try with_reducible rfl)
          simp only [Act.put, List.getElem_toArray, List.getElem_cons_succ, List.getElem_cons_zero, List.setIfInBounds_toArray, List.set_cons_zero, List.set_cons_succ]
          refine wpAnyH_take (i := 2) (v := ?_) rfl (by kernel_rfl) (by kernel_rfl) (by kernel_rfl) (fun _ _ _ h => h) (Or.inl ⟨by rfl, ?_⟩) (by assumption) ?_
          rotate_left
          · (intro w hSw; (try dsimp only at hSw); simp only [List.getElem_toArray, List.getElem_cons_succ, List.getElem_cons_zero]; go_simp; try with_reducible rfl)
          simp only [Act.put, List.getElem_toArray, List.getElem_cons_succ, List.getElem_cons_zero, List.setIfInBounds_toArray, List.set_cons_zero, List.set_cons_succ]
          refine wpAnyH_take (i := 3) (v := ?_) rfl (by kernel_rfl) (by kernel_rfl) (by kernel_rfl) (fun _ _ _ h => h) (Or.inl ⟨by rfl, ?_⟩) (by assumption) ?_
          rotate_left
          · (intro w hSw; (try dsimp only at hSw); simp only [List.getElem_toArray, List.getElem_cons_succ, List.getElem_cons_zero]; go_simp; try with_reducible rfl)
          simp only [Act.put, List.getElem_toArray, List.getElem_cons_succ, List.getElem_cons_zero, List.setIfInBounds_toArray, List.set_cons_zero, List.set_cons_succ]
          refine wpAnyH_take (i := 4) (v := ?_) rfl (by kernel_rfl) (by kernel_rfl) (by kernel_rfl) (fun _ _ _ h => h) (Or.inl ⟨by rfl, ?_⟩) (by assumption) ?_
          rotate_left
          · (intro w hSw; (try dsimp only at hSw); simp only [List.getElem_toArray, List.getElem_cons_succ, List.getElem_cons_zero]; go_simp; try with_reducible rfl)
          simp only [Act.put, List.getElem_toArray, List.getElem_cons_succ, List.getElem_cons_zero, List.setIfInBounds_toArray, List.set_cons_zero, List.set_cons_succ]
          refine wpAnyH_take (i := 5) (v := ?_) rfl (by kernel_rfl) (by kernel_rfl) (by kernel_rfl) (fun _ _ _ h => h) (Or.inl ⟨by rfl, ?_⟩) (by assumption) ?_
          rotate_left
          · (intro w hSw; (try dsimp only at hSw); simp only [List.getElem_toArray, List.getElem_cons_succ, List.getElem_cons_zero]; go_simp; try with_reducible rfl)
          simp only [Act.put, List.getElem_toArray, List.getElem_cons_succ, List.getElem_cons_zero, List.setIfInBounds_toArray, List.set_cons_zero, List.set_cons_succ]
          refine wpAnyH_take (i := 6) (v := ?_) rfl (by kernel_rfl) (by kernel_rfl) (by kernel_rfl) (fun _ _ _ h => h) (Or.inl ⟨by rfl, ?_⟩) (by assumption) ?_
          rotate_left
          · (intro w hSw; (try dsimp only at hSw); simp only [List.getElem_toArray, List.getElem_cons_succ, List.getElem_cons_zero]; go_simp; try with_reducible rfl)
          simp only [Act.put, List.getElem_toArray, List.getElem_cons_succ, List.getElem_cons_zero, List.setIfInBounds_toArray, List.set_cons_zero, List.set_cons_succ]
          refine wpAnyH_take (i := 10) (v := ?_) rfl (by kernel_rfl) (by kernel_rfl) (by kernel_rfl) (fun _ _ _ h => h) (Or.inl ⟨by rfl, ?_⟩) (by assumption) ?_
          rotate_left
          · (intro w hSw; (try dsimp only at hSw); simp only [List.getElem_toArray, List.getElem_cons_succ, List.getElem_cons_zero]; go_simp; try with_reducible rfl)
          simp only [Act.put, List.getElem_toArray, List.getElem_cons_succ, List.getElem_cons_zero, List.setIfInBounds_toArray, List.set_cons_zero, List.set_cons_succ]
          refine wpAnyH_take (i := 11) (v := ?_) rfl (by kernel_rfl) (by kernel_rfl) (by kernel_rfl) (fun _ _ _ h => h) (Or.inl ⟨by rfl, ?_⟩) (by assumption) ?_
          rotate_left
          · (intro w hSw; (try dsimp only at hSw); simp only [List.getElem_toArray, List.getElem_cons_succ, List.getElem_cons_zero]; go_simp; try with_reducible rfl)
          simp only [Act.put, List.getElem_toArray, List.getElem_cons_succ, List.getElem_cons_zero, List.setIfInBounds_toArray, List.set_cons_zero, List.set_cons_succ]
          refine wpAnyH_take (i := 14) (v := ?_) rfl (by kernel_rfl) (by kernel_rfl) (by kernel_rfl) (fun _ _ _ h => h) (Or.inl ⟨by rfl, ?_⟩) (by assumption) ?_
          rotate_left
          · (intro w hSw; (try dsimp only at hSw); simp only [List.getElem_toArray, List.getElem_cons_succ, List.getElem_cons_zero]; go_simp; try with_reducible rfl)
          simp only [Act.put, List.getElem_toArray, List.getElem_cons_succ, List.getElem_cons_zero, List.setIfInBounds_toArray, List.set_cons_zero, List.set_cons_succ]
          refine wpAnyH_take (i := 15) (v := ?_) rfl (by kernel_rfl) (by kernel_rfl) (by kernel_rfl) (fun _ _ _ h => h) (Or.inl ⟨by rfl, ?_⟩) (by assumption) ?_
          rotate_left
          · (intro w hSw; (try dsimp only at hSw); simp only [List.getElem_toArray, List.getElem_cons_succ, List.getElem_cons_zero]; go_simp; try with_reducible rfl)
          simp only [Act.put, List.getElem_toArray, List.getElem_cons_succ, List.getElem_cons_zero, List.setIfInBounds_toArray, List.set_cons_zero, List.set_cons_succ]
          refine wpAnyH_take (i := 16) (v := ?_) rfl (by kernel_rfl) (by kernel_rfl) (by kernel_rfl) (fun _ _ _ h => h) (Or.inl ⟨by rfl, ?_⟩) (by assumption) ?_
          rotate_left
          · (intro w hSw; (try dsimp only at hSw); simp only [List.getElem_toArray, List.getElem_cons_succ, List.getElem_cons_zero]; go_simp; try with_reducible rfl)
          simp only [Act.put, List.getElem_toArray, List.getElem_cons_succ, List.getElem_cons_zero, List.setIfInBounds_toArray, List.set_cons_zero, List.set_cons_succ]
          refine wpAnyH_take (i := 17) (v := ?_) rfl (by kernel_rfl) (by kernel_rfl) (by kernel_rfl) (fun _ _ _ h => h) (Or.inl ⟨by rfl, ?_⟩) (by assumption) ?_
          rotate_left
          · (intro w hSw; (try dsimp only at hSw); simp only [List.getElem_toArray, List.getElem_cons_succ, List.getElem_cons_zero]; go_simp; try with_reducible rfl)
          simp only [Act.put, List.getElem_toArray, List.getElem_cons_succ, List.getElem_cons_zero, List.setIfInBounds_toArray, List.set_cons_zero, List.set_cons_succ]
          refine wpAnyH_take (i := 18) (v := ?_) rfl (by kernel_rfl) (by kernel_rfl) (by kernel_rfl) (fun _ _ _ h => h) (Or.inl ⟨by rfl, ?_⟩) (by assumption) ?_
          rotate_left
          · (intro w hSw; (try dsimp only at hSw); simp only [List.getElem_toArray, List.getElem_cons_succ, List.getElem_cons_zero]; go_simp; try with_reducible rfl)
          simp only [Act.put, List.getElem_toArray, List.getElem_cons_succ, List.getElem_cons_zero, List.setIfInBounds_toArray, List.set_cons_zero, List.set_cons_succ]
          refine wpAnyH_take (i := 19) (v := ?_) rfl (by kernel_rfl) (by kernel_rfl) (by kernel_rfl) (fun _ _ _ h => h) (Or.inl ⟨by rfl, ?_⟩) (by assumption) ?_
          rotate_left
          · (intro w hSw; (try dsimp only at hSw); simp only [List.getElem_toArray, List.getElem_cons_succ, List.getElem_cons_zero]; go_simp; try with_reducible rfl)
          simp only [Act.put, List.getElem_toArray, List.getElem_cons_succ, List.getElem_cons_zero, List.setIfInBounds_toArray, List.set_cons_zero, List.set_cons_succ]
          refine wpAnyH_ready (rs := [7]) (by kernel_rfl) (by simp) ?_
          refine AllReadyH.cons rfl (fun K hK => ?_) AllReadyH.nil
          simp only [List.getElem_toArray, List.getElem_cons_succ, List.getElem_cons_zero]
          go_simp
          refine (K1.out _).mono ?_
          rintro e w9 ⟨rfl, rfl⟩
          refine hK.out _ _ ?_ (fun hHeld => ?_)
          · exact hHeld
          clear hK K
          try simp only [Act.put, List.setIfInBounds_toArray, List.set_cons_zero, List.set_cons_succ]
          refine wpAnyH_take (i := 8) (v := ?_) rfl (by kernel_rfl) (by kernel_rfl) (by kernel_rfl) (fun _ _ _ h => h) (Or.inl ⟨by rfl, ?_⟩) (by assumption) ?_
          rotate_left
          · (intro w hSw; (try dsimp only at hSw); simp only [List.getElem_toArray, List.getElem_cons_succ, List.getElem_cons_zero]; go_simp; try with_reducible rfl)
          simp only [Act.put, List.getElem_toArray, List.getElem_cons_succ, List.getElem_cons_zero, List.setIfInBounds_toArray, List.set_cons_zero, List.set_cons_succ]
          refine wpAnyH_take (i := 9) (v := ?_) rfl (by kernel_rfl) (by kernel_rfl) (by kernel_rfl) (fun _ _ _ h => h) (Or.inl ⟨by rfl, ?_⟩) (by assumption) ?_
          rotate_left
          · (intro w hSw; (try dsimp only at hSw); simp only [List.getElem_toArray, List.getElem_cons_succ, List.getElem_cons_zero]; go_simp; try with_reducible rfl)
          simp only [Act.put, List.getElem_toArray, List.getElem_cons_succ, List.getElem_cons_zero, List.setIfInBounds_toArray, List.set_cons_zero, List.set_cons_succ]
          refine wpAnyH_take (i := 12) (v := ?_) rfl (by kernel_rfl) (by kernel_rfl) (by kernel_rfl) (fun _ _ _ h => h) (Or.inl ⟨by rfl, ?_⟩) (by assumption) ?_
          rotate_left
          · (intro w hSw; (try dsimp only at hSw); simp only [List.getElem_toArray, List.getElem_cons_succ, List.getElem_cons_zero]; go_simp; try with_reducible rfl)
          simp only [Act.put, List.getElem_toArray, List.getElem_cons_succ, List.getElem_cons_zero, List.setIfInBounds_toArray, List.set_cons_zero, List.set_cons_succ]
          refine wpAnyH_take (i := 13) (v := ?_) rfl (by kernel_rfl) (by kernel_rfl) (by kernel_rfl) (fun _ _ _ h => h) (Or.inl ⟨by rfl, ?_⟩) (by assumption) ?_
          rotate_left
          · (intro w hSw; (try dsimp only at hSw); simp only [List.getElem_toArray, List.getElem_cons_succ, List.getElem_cons_zero]; go_simp; try with_reducible rfl)
          simp only [Act.put, List.getElem_toArray, List.getElem_cons_succ, List.getElem_cons_zero, List.setIfInBounds_toArray, List.set_cons_zero, List.set_cons_succ]
          refine wpAnyH_take (i := 20) (v := ?_) rfl (by kernel_rfl) (by kernel_rfl) (by kernel_rfl) (fun _ _ _ h => h) (Or.inl ⟨by rfl, ?_⟩) (by assumption) ?_
          rotate_left
          · (intro w hSw; (try dsimp only at hSw); simp only [List.getElem_toArray, List.getElem_cons_succ, List.getElem_cons_zero]; go_simp; try with_reducible rfl)
          simp only [Act.put, List.getElem_toArray, List.getElem_cons_succ, List.getElem_cons_zero, List.setIfInBounds_toArray, List.set_cons_zero, List.set_cons_succ]
          refine wpAnyH_take (i := 21) (v := ?_) rfl (by kernel_rfl) (by kernel_rfl) (by kernel_rfl) (fun _ _ _ h => h) (Or.inl ⟨by rfl, ?_⟩) (by assumption) ?_
          rotate_left
          · (intro w hSw; (try dsimp only at hSw); simp only [List.getElem_toArray, List.getElem_cons_succ, List.getElem_cons_zero]; go_simp; try with_reducible rfl)
          simp only [Act.put, List.getElem_toArray, List.getElem_cons_succ, List.getElem_cons_zero, List.setIfInBounds_toArray, List.set_cons_zero, List.set_cons_succ]
          refine wpAnyH_ready (rs := [22]) (by kernel_rfl) (by simp) ?_
          refine AllReadyH.cons rfl (fun K hK => ?_) AllReadyH.nil
          simp only [List.getElem_toArray, List.getElem_cons_succ, List.getElem_cons_zero]
          go_simp
          refine hK.out _ _ ?_ (fun hHeld => ?_)
          · exact ⟨far hHeld.1 (by show w.heap.size ≠ w.heap.size + 3; omega), far hHeld.2.1 (by simpa using (show g ≠ w.heap.size + 3 by omega)), far hHeld.2.2 (by simp)⟩
          clear hK K
          try simp only [Act.put, List.setIfInBounds_toArray, List.set_cons_zero, List.set_cons_succ]
          refine wpAnyH_done (by kernel_rfl) ?_ _
          go_wp2
          go_roundw
          case rel =>
            refine ⟨r + 1, by omega, by go_num, ?_⟩
            have h1 := (H7.out.set j (.int .u8 (R j : Nat))).drew
            rw [upto_set] at h1
            rw [HE.out, show 4 * c + (r + 1) = j + 1 by rw [HJ.out]; omega]
            exact h1
          case measure => simp [intOf]; omega
        · obtain rfl : r = 4 := by omega
          go_wp2
          go_roundw
          case rel => exact ⟨c + 1, by omega, by go_num, H7⟩
          case measure => simp [intOf]; omega
    · obtain rfl : c = 4 := by omega
      have HF : Hid (Four w X Y Z (bc 16 R) wr) := by
        have := HR.out
        rw [show 4 * 4 = 16 from rfl, upto_all] at this
        exact this
      clear HR hlt hc
      obtain ⟨V, hV⟩ : ∃ V, V = (bc 16 R).toArray := ⟨_, rfl⟩
      have hVl : V.size = 16 := by rw [hV, List.size_toArray, bc_len]
      have hV1 : Hid (V.all (·.oneCell') = true) := by rw [hV]; exact bc_one _ _
      have HV := hide hV
      have R2 : Hid (wr.heap[w.heap.size + 1 + 1 + 1]? = some (.cells V 45 (0, 0))) := by rw [hV]; exact HF.out.2.2.2.2
      have R1 : Hid (wr.heap[w.heap.size + 1 + 1]? = some (.cells Z.toArray 45 (0, 0))) := HF.out.2.2.2.1
      have hZl : Z.toArray.size = 16 := by rw [HZ.out, List.size_toArray, bc_len]
      clear hV
      go_wp2_with (first
        | (refine wpList_load_row rfl 45 _ rfl (w.heap.size + 1 + 1 + 1) rfl 45 V (0, 0) _ R2.out Tryd.underlying45 rfl (by rw [hVl]; rfl) ?_)
        | (refine wpList_store_row rfl 45 _ _ rfl (w.heap.size + 1 + 1) V rfl rfl 45 Z.toArray R1.out (by rw [hVl]; rfl) (by rw [hZl, hVl]) hV1.out ?_))
      refine bodyPost_ret (v := .agg V) (results_cell_row rfl _ _ (w.heap.size + 1 + 1) 45 V (0, 0) _ rfl (setRow_heap _ _ _ _ _ _ R1.out) Tryd.underlying45 rfl (by rw [hVl]; rfl)) rfl ⟨by rw [HV.out], ?_⟩
      exact below_setRow HF.out.1 (by omega) _
end Go.Proofs.YtdfbcdgneboilaaDoor
namespace Go.Proofs.YtdfbcdgneboilaaDoor
open Go.ChangeShapes Go.WideShapes Go.ChangeAt Go.RowKit
set_option maxRecDepth 20000

/-- Those whose place ahead of the shift is among the first. -/
def uptb (k : Nat) (f : Nat → Nat) (i : Nat) : Nat := if shb i < k then f i else 0
theorem uptb_set (c r : Nat) (hc : c < 4) (hr : r < 4) (f : Nat → Nat) : (bc 16 (uptb (4 * c + r) f)).set (shf c r) (.int .u8 (f (shf c r) : Nat)) = bc 16 (uptb (4 * c + r + 1) f) := by
  rw [bc_set]
  refine bc_congr fun i hi => ?_
  have e := shb_shf c r hc hr
  unfold uptb
  by_cases h : i = shf c r
  · subst h; rw [if_pos rfl, if_pos (by omega)]
  · have h' : shb i ≠ 4 * c + r := fun h2 => h (by
      have h3 := shi_shb i hi
      rw [h2] at h3
      rw [← h3]
      unfold shi
      rw [(quad c r hr).1, (quad c r hr).2])
    rw [if_neg h]
    by_cases h2 : shb i < 4 * c + r
    · rw [if_pos h2, if_pos (by omega)]
    · rw [if_neg h2, if_neg (by omega)]
theorem uptb_zero (f : Nat → Nat) : bc 16 (uptb 0 f) = bc 16 fun _ => 0 := bc_congr fun i _ => by unfold uptb; rw [if_neg (by omega)]
theorem uptb_all (f : Nat → Nat) : bc 16 (uptb 16 f) = bc 16 f := bc_congr fun i hi => by unfold uptb; rw [if_pos (shb_lt i hi)]
set_option linter.unusedSimpArgs false in
set_option maxRecDepth 100000 in
set_option maxHeartbeats 4000000 in
theorem unlast_core (g : Nat) (f k R b : Nat → Nat) (w : World) (hf : Hid (∀ i, f i < 256)) (hk : Hid (∀ i, k i < 256)) (hgw : g < w.heap.size)
    (hT : Hid (∀ w', Below w.heap.size w w' → ∀ a, a < 256 → w'.cell? ⟨g, 256 + a, none⟩ = some (.int .u8 (b a : Nat))))
    (hR : Hid (∀ c r, c < 4 → r < 4 → b (f (4 * c + r) ^^^ k (4 * c + r)) = R (shf c r))) :
    Calls Tryd.prog 38 #[.pointer (some ⟨g, 0, none⟩), .agg (bc 16 f).toArray, .agg (bc 16 k).toArray] w fun e w' => e = .returned (.agg (bc 16 R).toArray) ∧ Below w.heap.size w w' := by
  obtain ⟨X, hX⟩ : ∃ X, X = bc 16 f := ⟨_, rfl⟩
  obtain ⟨Y, hY⟩ : ∃ Y, Y = bc 16 k := ⟨_, rfl⟩
  obtain ⟨Z, hZ⟩ : ∃ Z, Z = bc 16 (fun _ => 0) := ⟨_, rfl⟩
  have hz := zero16
  rw [← hX, ← hY]
  rw [← hZ] at hz
  have HX := hide hX
  have HY := hide hY
  have HZ := hide hZ
  clear hX hY hZ
  go_enter Tryd.func38, Tryd.ntmps38
  go_wp2
  clear hz
  go_loopw [13] (fun i wr => ∃ c : Nat, c ≤ 4 ∧ i = .int .i64 c ∧ Hid (Four w X Y Z (bc 16 (uptb (4 * c) R)) wr)) (fun i _ => 4 - (intOf i).toNat)
  case atStart =>
    refine ⟨0, by omega, rfl, ?_⟩
    rw [Nat.mul_zero, uptb_zero, ← HZ.out]
    exact Four.start w X Y Z Z
  case round =>
    obtain ⟨c, hc, rfl, HR⟩ := hrel
    by_cases hlt : c < 4
    · go_wp2_with fail
      rw [show decide ((c : Int) < 4) = true from decide_eq_true (by omega)]
      go_loopw [16] (fun i w2 => ∃ r : Nat, r ≤ 4 ∧ i = .int .i64 r ∧ Hid (Four w X Y Z (bc 16 (uptb (4 * c + r) R)) w2)) (fun i _ => 4 - (intOf i).toNat)
      case atStart => exact ⟨0, by omega, rfl, HR⟩
      case round =>
        obtain ⟨r, hr, rfl, H7⟩ := hrel
        clear HR
        by_cases hlr : r < 4
        · obtain ⟨q, hq⟩ : ∃ q, q = shf c r := ⟨_, rfl⟩
          have hq16 : q < 16 := by rw [hq]; exact shf_lt c r hlt hlr
          obtain ⟨d, hd⟩ : ∃ d, d = 4 * c := ⟨_, rfl⟩
          obtain ⟨j, hj⟩ : ∃ j, j = d + r := ⟨_, rfl⟩
          have w1 : IntKind.i64.wrap (4 * (c : Int)) = (d : Int) := by rw [IntKind.wrap_i64]; omega
          have w2 : IntKind.i64.wrap ((d : Int) + (r : Int)) = (j : Int) := by rw [IntKind.wrap_i64]; omega
          have hj4 : j = 4 * c + r := by omega
          obtain ⟨y, hy⟩ : ∃ y, y = f j := ⟨_, rfl⟩
          have hy256 : y < 256 := by rw [hy]; exact hf.out j
          obtain ⟨z, hzz⟩ : ∃ z, z = k j := ⟨_, rfl⟩
          have hz256 : z < 256 := by rw [hzz]; exact hk.out j
          obtain ⟨v, hv⟩ : ∃ v, v = y ^^^ z := ⟨_, rfl⟩
          have hv256 : v < 256 := by rw [hv]; exact xor_lt _ _ hy256 hz256
          have hxv : bits .xor .u8 (y : Int) (z : Int) = (v : Int) := by rw [hv]; exact xor_u8 y z hy256 hz256
          obtain ⟨t, ht⟩ : ∃ t, t = b v := ⟨_, rfl⟩
          have e1 : wr.cell? ⟨w.heap.size, j, none⟩ = some (.int .u8 (y : Nat)) := by
            have := row_cell (by rw [← HX.out]; exact H7.out.2.1) j (by omega)
            rw [hy]; exact this
          have e2 : wr.cell? ⟨w.heap.size + 1, j, none⟩ = some (.int .u8 (z : Nat)) := by
            have := row_cell (by rw [← HY.out]; exact H7.out.2.2.1) j (by omega)
            rw [hzz]; exact this
          have e5 : wr.cell? ⟨g, 256 + v, none⟩ = some (.int .u8 (t : Nat)) := by rw [ht]; exact hT.out wr H7.out.1 v hv256
          obtain ⟨o, e3, e4⟩ := H7.out.cell q (by rw [bc_len]; omega)
          have K1 : Hid (∀ w, Calls Tryd.prog 51 #[.int .i64 c, .int .i64 r] w fun e w' => e = .returned (.int .i64 (q : Nat)) ∧ w' = w) := by rw [hq]; exact fun w => shifted_any c r hlt hlr w
          have HE : Hid (t = R (shf c r)) := by
            show _ = _
            rw [ht, hv, hy, hzz, hj4, hR.out c r hlt hlr]
          have HQ := hide hq
          have i1 : (q : Int) < 16 := by omega
          have i2 : (v : Int) < 256 := by omega
          have i3 : (r : Int) < 4 := by omega
          have i4 : (j : Int) < 16 := by omega
          clear hq hy ht hv hzz hd hj hj4 hq16 hy256 hv256 hz256
          go_wp2_with fail
          refine wp_region_held_drew (S := fun w' => w'.cell? ⟨w.heap.size, j, none⟩ = some (.int .u8 (y : Nat)) ∧ w'.cell? ⟨w.heap.size + 1, j, none⟩ = some (.int .u8 (z : Nat)) ∧ w'.cell? ⟨g, 256 + v, none⟩ = some (.int .u8 (t : Nat))) (by kernel_rfl) ?_ (fun hHeld => ?_)
          · exact ⟨e1, e2, e5⟩
          refine wpAnyH_take (i := 0) (v := ?_) rfl (by kernel_rfl) (by kernel_rfl) (by kernel_rfl) (fun _ _ _ h => h) (Or.inl ⟨by rfl, ?_⟩) (by assumption) ?_
          rotate_left
          · (intro w hSw; (try dsimp only at hSw); simp only [List.getElem_toArray, List.getElem_cons_zero]; go_simp; try with_reducible rfl)
          simp only [Act.put, List.getElem_toArray, List.getElem_cons_zero, List.setIfInBounds_toArray, List.set_cons_zero, List.set_cons_succ]
          refine wpAnyH_take (i := 1) (v := ?_) rfl (by kernel_rfl) (by kernel_rfl) (by kernel_rfl) (fun _ _ _ h => h) (Or.inl ⟨by rfl, ?_⟩) (by assumption) ?_
          rotate_left
          · (intro w hSw; (try dsimp only at hSw); simp only [List.getElem_toArray, List.getElem_cons_succ, List.getElem_cons_zero]; go_simp; try with_reducible rfl)
          simp only [Act.put, List.getElem_toArray, List.getElem_cons_succ, List.getElem_cons_zero, List.setIfInBounds_toArray, List.set_cons_zero, List.set_cons_succ]
          refine wpAnyH_take (i := 3) (v := ?_) rfl (by kernel_rfl) (by kernel_rfl) (by kernel_rfl) (fun _ _ _ h => h) (Or.inl ⟨by rfl, ?_⟩) (by assumption) ?_
          rotate_left
          · (intro w hSw; (try dsimp only at hSw); simp only [List.getElem_toArray, List.getElem_cons_succ, List.getElem_cons_zero]; go_simp; try with_reducible rfl)
          simp only [Act.put, List.getElem_toArray, List.getElem_cons_succ, List.getElem_cons_zero, List.setIfInBounds_toArray, List.set_cons_zero, List.set_cons_succ]
          refine wpAnyH_take (i := 4) (v := ?_) rfl (by kernel_rfl) (by kernel_rfl) (by kernel_rfl) (fun _ _ _ h => h) (Or.inl ⟨by rfl, ?_⟩) (by assumption) ?_
          rotate_left
          · (intro w hSw; (try dsimp only at hSw); simp only [List.getElem_toArray, List.getElem_cons_succ, List.getElem_cons_zero]; go_simp; try with_reducible rfl)
          simp only [Act.put, List.getElem_toArray, List.getElem_cons_succ, List.getElem_cons_zero, List.setIfInBounds_toArray, List.set_cons_zero, List.set_cons_succ]
          refine wpAnyH_take (i := 5) (v := ?_) rfl (by kernel_rfl) (by kernel_rfl) (by kernel_rfl) (fun _ _ _ h => h) (Or.inl ⟨by rfl, ?_⟩) (by assumption) ?_
          rotate_left
          · (intro w hSw; (try dsimp only at hSw); simp only [List.getElem_toArray, List.getElem_cons_succ, List.getElem_cons_zero]; go_simp; try with_reducible rfl)
          simp only [Act.put, List.getElem_toArray, List.getElem_cons_succ, List.getElem_cons_zero, List.setIfInBounds_toArray, List.set_cons_zero, List.set_cons_succ]
          refine wpAnyH_take (i := 6) (v := ?_) rfl (by kernel_rfl) (by kernel_rfl) (by kernel_rfl) (fun _ _ _ h => h) (Or.inl ⟨by rfl, ?_⟩) (by assumption) ?_
          rotate_left
          · (intro w hSw; (try dsimp only at hSw); simp only [List.getElem_toArray, List.getElem_cons_succ, List.getElem_cons_zero]; go_simp; try with_reducible rfl)
          simp only [Act.put, List.getElem_toArray, List.getElem_cons_succ, List.getElem_cons_zero, List.setIfInBounds_toArray, List.set_cons_zero, List.set_cons_succ]
          refine wpAnyH_take (i := 7) (v := ?_) rfl (by kernel_rfl) (by kernel_rfl) (by kernel_rfl) (fun _ _ _ h => h) (Or.inl ⟨by rfl, ?_⟩) (by assumption) ?_
          rotate_left
          · (intro w hSw; (try dsimp only at hSw); simp only [List.getElem_toArray, List.getElem_cons_succ, List.getElem_cons_zero]; go_simp; try with_reducible rfl)
          simp only [Act.put, List.getElem_toArray, List.getElem_cons_succ, List.getElem_cons_zero, List.setIfInBounds_toArray, List.set_cons_zero, List.set_cons_succ]
          refine wpAnyH_take (i := 8) (v := ?_) rfl (by kernel_rfl) (by kernel_rfl) (by kernel_rfl) (fun _ _ _ h => h) (Or.inl ⟨by rfl, ?_⟩) (by assumption) ?_
          rotate_left
          · (intro w hSw; (try dsimp only at hSw); simp only [List.getElem_toArray, List.getElem_cons_succ, List.getElem_cons_zero]; go_simp; try with_reducible rfl)
          simp only [Act.put, List.getElem_toArray, List.getElem_cons_succ, List.getElem_cons_zero, List.setIfInBounds_toArray, List.set_cons_zero, List.set_cons_succ]
          refine wpAnyH_take (i := 9) (v := ?_) rfl (by kernel_rfl) (by kernel_rfl) (by kernel_rfl) (fun _ _ _ h => h) (Or.inl ⟨by rfl, ?_⟩) (by assumption) ?_
          rotate_left
          · (intro w hSw; (try dsimp only at hSw); simp only [List.getElem_toArray, List.getElem_cons_succ, List.getElem_cons_zero]; go_simp; try with_reducible rfl)
          simp only [Act.put, List.getElem_toArray, List.getElem_cons_succ, List.getElem_cons_zero, List.setIfInBounds_toArray, List.set_cons_zero, List.set_cons_succ]
          refine wpAnyH_take (i := 10) (v := ?_) rfl (by kernel_rfl) (by kernel_rfl) (by kernel_rfl) (fun _ _ _ h => h) (Or.inl ⟨by rfl, ?_⟩) (by assumption) ?_
          rotate_left
          · (intro w hSw; (try dsimp only at hSw); simp only [List.getElem_toArray, List.getElem_cons_succ, List.getElem_cons_zero]; go_simp; try with_reducible rfl)
          simp only [Act.put, List.getElem_toArray, List.getElem_cons_succ, List.getElem_cons_zero, List.setIfInBounds_toArray, List.set_cons_zero, List.set_cons_succ]
          refine wpAnyH_take (i := 11) (v := ?_) rfl (by kernel_rfl) (by kernel_rfl) (by kernel_rfl) (fun _ _ _ h => h) (Or.inl ⟨by rfl, ?_⟩) (by assumption) ?_
          rotate_left
          · (intro w hSw; (try dsimp only at hSw); simp only [List.getElem_toArray, List.getElem_cons_succ, List.getElem_cons_zero]; go_simp; try with_reducible rfl)
          simp only [Act.put, List.getElem_toArray, List.getElem_cons_succ, List.getElem_cons_zero, List.setIfInBounds_toArray, List.set_cons_zero, List.set_cons_succ]
          refine wpAnyH_take (i := 12) (v := ?_) rfl (by kernel_rfl) (by kernel_rfl) (by kernel_rfl) (fun _ _ _ h => h) (Or.inl ⟨by rfl, ?_⟩) (by assumption) ?_
          rotate_left
          · (intro w hSw; (try dsimp only at hSw); simp only [List.getElem_toArray, List.getElem_cons_succ, List.getElem_cons_zero]; go_simp; try with_reducible rfl)
          simp only [Act.put, List.getElem_toArray, List.getElem_cons_succ, List.getElem_cons_zero, List.setIfInBounds_toArray, List.set_cons_zero, List.set_cons_succ]
          refine wpAnyH_take (i := 13) (v := ?_) rfl (by kernel_rfl) (by kernel_rfl) (by kernel_rfl) (fun _ _ _ h => h) (Or.inl ⟨by rfl, ?_⟩) (by assumption) ?_
          rotate_left
          · (intro w hSw; (try dsimp only at hSw); simp only [List.getElem_toArray, List.getElem_cons_succ, List.getElem_cons_zero]; go_simp; try with_reducible rfl)
          simp only [Act.put, List.getElem_toArray, List.getElem_cons_succ, List.getElem_cons_zero, List.setIfInBounds_toArray, List.set_cons_zero, List.set_cons_succ]
          refine wpAnyH_take (i := 14) (v := ?_) rfl (by kernel_rfl) (by kernel_rfl) (by kernel_rfl) (fun _ _ _ h => h) (Or.inl ⟨by rfl, ?_⟩) (by assumption) ?_
          rotate_left
          · (intro w hSw; (try dsimp only at hSw); simp only [List.getElem_toArray, List.getElem_cons_succ, List.getElem_cons_zero]; go_simp; try with_reducible rfl)
          simp only [Act.put, List.getElem_toArray, List.getElem_cons_succ, List.getElem_cons_zero, List.setIfInBounds_toArray, List.set_cons_zero, List.set_cons_succ]
          refine wpAnyH_take (i := 15) (v := ?_) rfl (by kernel_rfl) (by kernel_rfl) (by kernel_rfl) (fun _ _ _ h => h) (Or.inl ⟨by rfl, ?_⟩) (by assumption) ?_
          rotate_left
          · (intro w hSw; (try dsimp only at hSw); simp only [List.getElem_toArray, List.getElem_cons_succ, List.getElem_cons_zero]; go_simp; try with_reducible rfl)
          simp only [Act.put, List.getElem_toArray, List.getElem_cons_succ, List.getElem_cons_zero, List.setIfInBounds_toArray, List.set_cons_zero, List.set_cons_succ]
          refine wpAnyH_take (i := 16) (v := ?_) rfl (by kernel_rfl) (by kernel_rfl) (by kernel_rfl) (fun _ _ _ h => h) (Or.inl ⟨by rfl, ?_⟩) (by assumption) ?_
          rotate_left
          · (intro w hSw; (try dsimp only at hSw); simp only [List.getElem_toArray, List.getElem_cons_succ, List.getElem_cons_zero]; go_simp; try with_reducible rfl)
          simp only [Act.put, List.getElem_toArray, List.getElem_cons_succ, List.getElem_cons_zero, List.setIfInBounds_toArray, List.set_cons_zero, List.set_cons_succ]
          refine wpAnyH_take (i := 17) (v := ?_) rfl (by kernel_rfl) (by kernel_rfl) (by kernel_rfl) (fun _ _ _ h => h) (Or.inl ⟨by rfl, ?_⟩) (by assumption) ?_
          rotate_left
          · (intro w hSw; (try dsimp only at hSw); simp only [List.getElem_toArray, List.getElem_cons_succ, List.getElem_cons_zero]; go_simp; try with_reducible rfl)
          simp only [Act.put, List.getElem_toArray, List.getElem_cons_succ, List.getElem_cons_zero, List.setIfInBounds_toArray, List.set_cons_zero, List.set_cons_succ]
          refine wpAnyH_take (i := 18) (v := ?_) rfl (by kernel_rfl) (by kernel_rfl) (by kernel_rfl) (fun _ _ _ h => h) (Or.inl ⟨by rfl, ?_⟩) (by assumption) ?_
          rotate_left
          · (intro w hSw; (try dsimp only at hSw); simp only [List.getElem_toArray, List.getElem_cons_succ, List.getElem_cons_zero]; go_simp; try with_reducible rfl)
          simp only [Act.put, List.getElem_toArray, List.getElem_cons_succ, List.getElem_cons_zero, List.setIfInBounds_toArray, List.set_cons_zero, List.set_cons_succ]
          refine wpAnyH_take (i := 19) (v := ?_) rfl (by kernel_rfl) (by kernel_rfl) (by kernel_rfl) (fun _ _ _ h => h) (Or.inl ⟨by rfl, ?_⟩) (by assumption) ?_
          rotate_left
          · (intro w hSw; (try dsimp only at hSw); simp only [List.getElem_toArray, List.getElem_cons_succ, List.getElem_cons_zero]; go_simp; try with_reducible rfl)
          simp only [Act.put, List.getElem_toArray, List.getElem_cons_succ, List.getElem_cons_zero, List.setIfInBounds_toArray, List.set_cons_zero, List.set_cons_succ]
          refine wpAnyH_take (i := 20) (v := ?_) rfl (by kernel_rfl) (by kernel_rfl) (by kernel_rfl) (fun _ _ _ h => h) (Or.inl ⟨by rfl, ?_⟩) (by assumption) ?_
          rotate_left
          · (intro w hSw; (try dsimp only at hSw); simp only [List.getElem_toArray, List.getElem_cons_succ, List.getElem_cons_zero]; go_simp; try with_reducible rfl)
          simp only [Act.put, List.getElem_toArray, List.getElem_cons_succ, List.getElem_cons_zero, List.setIfInBounds_toArray, List.set_cons_zero, List.set_cons_succ]
          refine wpAnyH_ready (rs := [2]) (by kernel_rfl) (by simp) ?_
          refine AllReadyH.cons rfl (fun K hK => ?_) AllReadyH.nil
          simp only [List.getElem_toArray, List.getElem_cons_succ, List.getElem_cons_zero]
          go_simp
          refine (K1.out _).mono ?_
          rintro e w9 ⟨rfl, rfl⟩
          refine hK.out _ _ ?_ (fun hHeld => ?_)
          · exact hHeld
          clear hK K
          try simp only [Act.put, List.setIfInBounds_toArray, List.set_cons_zero, List.set_cons_succ]
          refine wpAnyH_take (i := 21) (v := ?_) rfl (by kernel_rfl) (by kernel_rfl) (by kernel_rfl) (fun _ _ _ h => h) (Or.inl ⟨by rfl, ?_⟩) (by assumption) ?_
          rotate_left
          · (intro w hSw; (try dsimp only at hSw); simp only [List.getElem_toArray, List.getElem_cons_succ, List.getElem_cons_zero]; go_simp; try with_reducible rfl)
          simp only [Act.put, List.getElem_toArray, List.getElem_cons_succ, List.getElem_cons_zero, List.setIfInBounds_toArray, List.set_cons_zero, List.set_cons_succ]
          refine wpAnyH_ready (rs := [22]) (by kernel_rfl) (by simp) ?_
          refine AllReadyH.cons rfl (fun K hK => ?_) AllReadyH.nil
          simp only [List.getElem_toArray, List.getElem_cons_succ, List.getElem_cons_zero]
          go_simp
          refine hK.out _ _ ?_ (fun hHeld => ?_)
          · exact ⟨far hHeld.1 (by show w.heap.size ≠ w.heap.size + 3; omega), far hHeld.2.1 (by simp), far hHeld.2.2 (by simpa using (show g ≠ w.heap.size + 3 by omega))⟩
          clear hK K
          try simp only [Act.put, List.setIfInBounds_toArray, List.set_cons_zero, List.set_cons_succ]
          refine wpAnyH_done (by kernel_rfl) ?_ _
          go_wp2
          go_roundw
          case rel =>
            refine ⟨r + 1, by omega, by go_num, ?_⟩
            have h1 := (H7.out.set q (.int .u8 (t : Nat))).drew
            rw [HE.out, HQ.out, uptb_set c r hlt hlr] at h1
            rw [HE.out, HQ.out]
            exact h1
          case measure => simp [intOf]; omega
        · obtain rfl : r = 4 := by omega
          go_wp2
          go_roundw
          case rel => exact ⟨c + 1, by omega, by go_num, H7⟩
          case measure => simp [intOf]; omega
    · obtain rfl : c = 4 := by omega
      have HF : Hid (Four w X Y Z (bc 16 R) wr) := by
        have := HR.out
        rw [show 4 * 4 = 16 from rfl, uptb_all] at this
        exact this
      clear HR hlt hc
      obtain ⟨V, hV⟩ : ∃ V, V = (bc 16 R).toArray := ⟨_, rfl⟩
      have hVl : V.size = 16 := by rw [hV, List.size_toArray, bc_len]
      have hV1 : Hid (V.all (·.oneCell') = true) := by rw [hV]; exact bc_one _ _
      have HV := hide hV
      have R2 : Hid (wr.heap[w.heap.size + 1 + 1 + 1]? = some (.cells V 45 (0, 0))) := by rw [hV]; exact HF.out.2.2.2.2
      have R1 : Hid (wr.heap[w.heap.size + 1 + 1]? = some (.cells Z.toArray 45 (0, 0))) := HF.out.2.2.2.1
      have hZl : Z.toArray.size = 16 := by rw [HZ.out, List.size_toArray, bc_len]
      clear hV
      go_wp2_with (first
        | (refine wpList_load_row rfl 45 _ rfl (w.heap.size + 1 + 1 + 1) rfl 45 V (0, 0) _ R2.out Tryd.underlying45 rfl (by rw [hVl]; rfl) ?_)
        | (refine wpList_store_row rfl 45 _ _ rfl (w.heap.size + 1 + 1) V rfl rfl 45 Z.toArray R1.out (by rw [hVl]; rfl) (by rw [hZl, hVl]) hV1.out ?_))
      refine bodyPost_ret (v := .agg V) (results_cell_row rfl _ _ (w.heap.size + 1 + 1) 45 V (0, 0) _ rfl (setRow_heap _ _ _ _ _ _ R1.out) Tryd.underlying45 rfl (by rw [hVl]; rfl)) rfl ⟨by rw [HV.out], ?_⟩
      exact below_setRow HF.out.1 (by omega) _
end Go.Proofs.YtdfbcdgneboilaaDoor
namespace Go.Proofs.YtdfbcdgneboilaaDoor
open Go.ChangeShapes Go.WideShapes Go.ChangeAt Go.RowKit
set_option maxRecDepth 20000

theorem quad_row (c : Nat) (hc : c < 4) (R : Nat → Nat) : (bc 16 (upto (4 * c) R)).take (4 * c) ++ bc 4 (fun i => R (4 * c + i)) ++ (bc 16 (upto (4 * c) R)).drop (4 * c + 4) = bc 16 (upto (4 * c + 4) R) := by
  match c, hc with
  | 0, _ => rfl
  | 1, _ => rfl
  | 2, _ => rfl
  | 3, _ => rfl
theorem copy_quad (W : World) (g q c d n m : Nat) (hc : c < 4) (hd : d = 4 * c) (hn : n = 16 - d) (R : Nat → Nat) (t t' : TypeId) (hg : W.heap[g]? = some (.cells (bc 16 (upto (4 * c) R)).toArray t (0, 0))) (hq : W.heap[q]? = some (.cells (bc 4 fun i => R (4 * c + i)).toArray t' (0, 0))) :
    (Builtin.copy_ #[22, 22] 3 #[.slice (some ⟨g, d, none⟩) n m, .slice (some ⟨q, 0, none⟩) 4 4]).run Tryd.prog W = .ok (goInt 4) (W.setRow g (bc 16 (upto (4 * c + 4) R)).toArray) := by
  subst hd hn
  have h := run_copy_row (P := Tryd.prog) W 22 22 3 5 g (4 * c) (16 - 4 * c) m ⟨q, 0, none⟩ 4 4 (bc 16 (upto (4 * c) R)).toArray t (bc 4 fun i => R (4 * c + i)) Tryd.underlying22 rfl hg (by rw [bc_len]; show _ = min _ _; omega)
    (fun j v hj => by rw [addr_add, cell_of_row W q _ _ _ _ hq]; simpa using hj) (by rw [bc_len, List.size_toArray, bc_len]; omega) (fun v hv => by unfold bc at hv; obtain ⟨i, _, rfl⟩ := List.mem_map.1 hv; rfl)
  rw [bc_len] at h
  rw [← quad_row c hc R]
  exact h

set_option linter.unusedSimpArgs false in
set_option maxRecDepth 100000 in
set_option maxHeartbeats 4000000 in
theorem unround_core (g : Nat) (f k R1 R : Nat → Nat) (m P : Nat → Nat → Nat) (w : World) (hf : Hid (∀ i, f i < 256)) (hk : Hid (∀ i, k i < 256))
    (hm : Hid (∀ r a, r < 4 → a < 256 → m r a < 4294967296))
    (hT : Hid (∀ w', Below w.heap.size w w' → ∀ r a, r < 4 → a < 256 → w'.cell? ⟨g, 1536 + r * 256 + a, none⟩ = some (.int .u32 (m r a : Nat))))
    (cP : Hid (∀ n, n < 4294967296 → ∀ w, Calls Tryd.prog 47 #[.int .u32 (n : Nat)] w fun e w' => e = .returned (.agg (bc 4 (P n)).toArray) ∧ Below w.heap.size w w'))
    (hR : Hid (∀ c i, c < 4 → i < 4 → P (colx (fun r => m r (f (4 * c + r) ^^^ k (4 * c + r))) 4) i = R1 (4 * c + i)))
    (cU : Hid (∀ w', Below w.heap.size w w' → Calls Tryd.prog 38 #[.pointer (some ⟨g, 0, none⟩), .agg (bc 16 R1).toArray, .agg (bc 16 fun _ => 0).toArray] w' fun e w'' => e = .returned (.agg (bc 16 R).toArray) ∧ Below w'.heap.size w' w'')) :
    Calls Tryd.prog 39 #[.pointer (some ⟨g, 0, none⟩), .agg (bc 16 f).toArray, .agg (bc 16 k).toArray] w fun e w' => e = .returned (.agg (bc 16 R).toArray) ∧ Below w.heap.size w w' := by
  obtain ⟨X, hX⟩ : ∃ X, X = bc 16 f := ⟨_, rfl⟩
  obtain ⟨Y, hY⟩ : ∃ Y, Y = bc 16 k := ⟨_, rfl⟩
  obtain ⟨Z, hZ⟩ : ∃ Z, Z = bc 16 (fun _ => 0) := ⟨_, rfl⟩
  have hz := zero16
  rw [← hX, ← hY]
  rw [← hZ] at hz cU
  have HX := hide hX
  have HY := hide hY
  have HZ := hide hZ
  clear hX hY hZ
  go_enter Tryd.func39, Tryd.ntmps39
  go_wp2
  go_loopw [15] (fun i wr => ∃ c : Nat, c ≤ 4 ∧ i = .int .i64 c ∧ Hid (Four w X Y Z (bc 16 (upto (4 * c) R1)) wr)) (fun i _ => 4 - (intOf i).toNat)
  case atStart =>
    refine ⟨0, by omega, rfl, ?_⟩
    rw [Nat.mul_zero, upto_zero, ← HZ.out]
    exact Four.start w X Y Z Z
  case round =>
    obtain ⟨c, hc, rfl, HR⟩ := hrel
    by_cases hlt : c < 4
    · go_wp2_with fail
      rw [show decide ((c : Int) < 4) = true from decide_eq_true (by omega)]
      go_loopw [18, 9] (fun i s w2 => ∃ r : Nat, r ≤ 4 ∧ i = .int .i64 r ∧ s = .int .u32 (colx (fun r => m r (f (4 * c + r) ^^^ k (4 * c + r))) r : Nat) ∧ Hid (Four w X Y Z (bc 16 (upto (4 * c) R1)) w2)) (fun i _ _ => 4 - (intOf i).toNat)
      case atStart => exact ⟨0, by omega, rfl, rfl, HR⟩
      case round =>
        obtain ⟨r, hr, rfl, rfl, H2⟩ := hrel
        by_cases hlr : r < 4
        · obtain ⟨d, hd⟩ : ∃ d, d = 4 * c := ⟨_, rfl⟩
          obtain ⟨j, hj⟩ : ∃ j, j = d + r := ⟨_, rfl⟩
          have w1 : IntKind.i64.wrap (4 * (c : Int)) = (d : Int) := by rw [IntKind.wrap_i64]; omega
          have w2 : IntKind.i64.wrap ((d : Int) + (r : Int)) = (j : Int) := by rw [IntKind.wrap_i64]; omega
          have hj4 : j = 4 * c + r := by omega
          obtain ⟨y, hy⟩ : ∃ y, y = f j := ⟨_, rfl⟩
          have hy256 : y < 256 := by rw [hy]; exact hf.out j
          obtain ⟨z, hzz⟩ : ∃ z, z = k j := ⟨_, rfl⟩
          have hz256 : z < 256 := by rw [hzz]; exact hk.out j
          obtain ⟨v, hv⟩ : ∃ v, v = y ^^^ z := ⟨_, rfl⟩
          have hv256 : v < 256 := by rw [hv]; exact xor_lt _ _ hy256 hz256
          have hxv : bits .xor .u8 (y : Int) (z : Int) = (v : Int) := by rw [hv]; exact xor_u8 y z hy256 hz256
          obtain ⟨t, ht⟩ : ∃ t, t = m r v := ⟨_, rfl⟩
          have ht32 : t < 4294967296 := by rw [ht]; exact hm.out r v hlr hv256
          obtain ⟨s, hs⟩ : ∃ s, s = colx (fun r => m r (f (4 * c + r) ^^^ k (4 * c + r))) r := ⟨_, rfl⟩
          have hs32 : s < 4294967296 := by
            rw [hs]; exact colx_lt _ _ fun r' hr' => hm.out r' _ (by omega) (xor_lt _ _ (hf.out _) (hk.out _))
          have e1 : wr.cell? ⟨w.heap.size, j, none⟩ = some (.int .u8 (y : Nat)) := by
            have := row_cell (by rw [← HX.out]; exact H2.out.2.1) j (by omega)
            rw [hy]; exact this
          have e2 : wr.cell? ⟨w.heap.size + 1, j, none⟩ = some (.int .u8 (z : Nat)) := by
            have := row_cell (by rw [← HY.out]; exact H2.out.2.2.1) j (by omega)
            rw [hzz]; exact this
          have e3 : wr.cell? ⟨g, 1536 + r * 256 + v, none⟩ = some (.int .u32 (t : Nat)) := by rw [ht]; exact hT.out wr H2.out.1 r v hlr hv256
          have hx : Hid (bits .xor .u32 (s : Int) (t : Int) = ((colx (fun r => m r (f (4 * c + r) ^^^ k (4 * c + r))) (r + 1) : Nat) : Int)) := by
            show _ = _
            rw [xor_u32 s t hs32 ht32, colx, hs, ht, hv, hy, hzz, hj4]
          rw [← hs]
          have i1 : (j : Int) < 16 := by omega
          have i2 : (v : Int) < 256 := by omega
          have i3 : (r : Int) < 4 := by omega
          clear hd hj hj4 hy hzz hv ht hs HR hy256 hz256 hv256 ht32 hs32
          go_wp2_with fail
          go_quiet (fail)
          go_wp2
          go_roundw
          case rel => exact ⟨r + 1, by omega, by go_num, by rw [hx.out], H2.out.drewN _⟩
          case measure => simp [intOf]; omega
        · obtain rfl : r = 4 := by omega
          obtain ⟨s, hs⟩ : ∃ s, s = colx (fun r => m r (f (4 * c + r) ^^^ k (4 * c + r))) 4 := ⟨_, rfl⟩
          have hs32 : s < 4294967296 := by
            rw [hs]; exact colx_lt _ _ fun r' hr' => hm.out r' _ (by omega) (xor_lt _ _ (hf.out _) (hk.out _))
          rw [← hs]
          have K1 := hide (cP.out s hs32)
          have hPR : bc 4 (P s) = bc 4 fun i => R1 (4 * c + i) := bc_congr fun i hi => by rw [hs]; exact hR.out c i hlt hi
          clear HR hs32 hs
          go_wp2_with fail
          refine (K1.out _).mono ?_
          rintro e w3 ⟨rfl, b3⟩
          have H3 := hide (H2.out.later b3)
          have hz4 := zero4
          obtain ⟨Z4, hZ4⟩ : ∃ Z4, Z4 = bc 4 (fun _ => 0) := ⟨_, rfl⟩
          rw [← hZ4] at hz4
          have hZl : Z4.toArray.size = 4 := by rw [hZ4, List.size_toArray, bc_len]
          obtain ⟨A, hA⟩ : ∃ A, A = bc 4 (P s) := ⟨_, rfl⟩
          rw [← hA]
          have hAl : A.toArray.size = 4 := by rw [hA, List.size_toArray, bc_len]
          have hA1 : Hid (A.toArray.all (·.oneCell') = true) := by rw [hA]; exact bc_one _ _
          rw [hPR] at hA
          have HA := hide hA
          clear hZ4 b3 H2 hA hPR
          go_wp2_with (refine wpList_store_row rfl 62 _ _ rfl w3.heap.size A.toArray rfl rfl 62 _ (heap_alloc_new _ _) (by rw [hAl]; rfl) (by rw [hAl, hZl]) hA1.out ?_)
          obtain ⟨nb, nr⟩ := new_row w3 Z4.toArray A.toArray 62
          have h4 := H3.out.later nb
          obtain ⟨g4, hg4⟩ : ∃ g4, g4 = w3.heap.size := ⟨_, rfl⟩
          obtain ⟨W, hW⟩ : ∃ W, W = (w3.alloc (.cells Z4.toArray 62)).setRow w3.heap.size A.toArray := ⟨_, rfl⟩
          rw [← hW] at h4 nr ⊢
          rw [← hg4] at nr ⊢
          obtain ⟨d, hd⟩ : ∃ d, d = 4 * c := ⟨_, rfl⟩
          have w1 : IntKind.i64.wrap (4 * (c : Int)) = (d : Int) := by rw [IntKind.wrap_i64]; omega
          obtain ⟨n, hn⟩ : ∃ n, n = 16 - d := ⟨_, rfl⟩
          have hcp := copy_quad W.drew (w.heap.size + 1 + 1 + 1) g4 c d n n hlt hd hn R1 45 62 h4.2.2.2.2 (by rw [← HA.out]; exact nr)
          have H4 := hide h4
          have i1 : (d : Int) ≤ 16 := by omega
          have i2 : d ≤ 16 := by omega
          have i3 : (16 - (d : Int)).toNat = n := by omega
          have i4 : 16 - d = n := hn.symm
          have i5 : ¬ 16 = d := by omega
          clear hz4 hZl hAl hA1 H3 nb nr hg4 hW K1 h4 hd hn
          refine wp_region_held_drew (S := fun _ => True) (by kernel_rfl) ?_ (fun hHeld => ?_)
          · trivial
          refine wpAnyH_take (i := 0) (v := ?_) rfl (by kernel_rfl) (by kernel_rfl) (by kernel_rfl) (fun _ _ _ h => h) (Or.inl ⟨by rfl, ?_⟩) (by assumption) ?_
          rotate_left
          · (intro w hSw; (try dsimp only at hSw); simp only [List.getElem_toArray, List.getElem_cons_zero]; go_simp; try with_reducible rfl)
          simp only [Act.put, List.getElem_toArray, List.getElem_cons_zero, List.setIfInBounds_toArray, List.set_cons_zero, List.set_cons_succ]
          refine wpAnyH_take (i := 1) (v := ?_) rfl (by kernel_rfl) (by kernel_rfl) (by kernel_rfl) (fun _ _ _ h => h) (Or.inl ⟨by rfl, ?_⟩) (by assumption) ?_
          rotate_left
          · (intro w hSw; (try dsimp only at hSw); simp only [List.getElem_toArray, List.getElem_cons_succ, List.getElem_cons_zero]; go_simp; try with_reducible rfl)
          simp only [Act.put, List.getElem_toArray, List.getElem_cons_succ, List.getElem_cons_zero, List.setIfInBounds_toArray, List.set_cons_zero, List.set_cons_succ]
          refine wpAnyH_take (i := 2) (v := ?_) rfl (by kernel_rfl) (by kernel_rfl) (by kernel_rfl) (fun _ _ _ h => h) (Or.inl ⟨by rfl, ?_⟩) (by assumption) ?_
          rotate_left
          · (intro w hSw; (try dsimp only at hSw); simp only [List.getElem_toArray, List.getElem_cons_succ, List.getElem_cons_zero]; go_simp; try with_reducible rfl)
          simp only [Act.put, List.getElem_toArray, List.getElem_cons_succ, List.getElem_cons_zero, List.setIfInBounds_toArray, List.set_cons_zero, List.set_cons_succ]
          refine wpAnyH_take (i := 3) (v := ?_) rfl (by kernel_rfl) (by kernel_rfl) (by kernel_rfl) (fun _ _ _ h => h) (Or.inl ⟨by rfl, ?_⟩) (by assumption) ?_
          rotate_left
          · (intro w hSw; (try dsimp only at hSw); simp only [List.getElem_toArray, List.getElem_cons_succ, List.getElem_cons_zero]; go_simp; try with_reducible rfl)
          simp only [Act.put, List.getElem_toArray, List.getElem_cons_succ, List.getElem_cons_zero, List.setIfInBounds_toArray, List.set_cons_zero, List.set_cons_succ]
          refine wpAnyH_ready (rs := [4]) (by kernel_rfl) (by simp) ?_
          refine AllReadyH.cons rfl (fun K hK => ?_) AllReadyH.nil
          simp only [List.getElem_toArray, List.getElem_cons_succ, List.getElem_cons_zero]
          go_simp
          refine hK.out _ _ ?_ (fun hHeld => ?_)
          · trivial
          clear hK K
          try simp only [Act.put, List.setIfInBounds_toArray, List.set_cons_zero, List.set_cons_succ]
          refine wpAnyH_done (by kernel_rfl) ?_ _
          go_wp2
          go_roundw
          case rel =>
            refine ⟨c + 1, by omega, by go_num, ?_⟩
            obtain ⟨b, h1, h2, h3, h4⟩ := H4.out
            refine ⟨below_setRow b.drew (by omega) _, ?_, ?_, ?_, ?_⟩
            · exact (setRow_other _ _ _ _ (by omega)).trans h1
            · exact (setRow_other _ _ _ _ (by omega)).trans h2
            · exact (setRow_other _ _ _ _ (by omega)).trans h3
            · exact setRow_heap W.drew _ _ _ _ _ h4
          case measure => simp [intOf]; omega
    · obtain rfl : c = 4 := by omega
      have HF : Hid (Four w X Y Z (bc 16 R1) wr) := by
        have := HR.out
        rw [show 4 * 4 = 16 from rfl, upto_all] at this
        exact this
      clear HR hlt hc
      have K1 := hide (cU.out wr HF.out.1)
      obtain ⟨V1, hV1⟩ : ∃ V1, V1 = bc 16 R1 := ⟨_, rfl⟩
      rw [← hV1] at K1 HF
      have hV1l : V1.toArray.size = 16 := by rw [hV1, List.size_toArray, bc_len]
      have R2 : Hid (wr.heap[w.heap.size + 1 + 1 + 1]? = some (.cells V1.toArray 45 (0, 0))) := HF.out.2.2.2.2
      obtain ⟨V, hV⟩ : ∃ V, V = (bc 16 R).toArray := ⟨_, rfl⟩
      rw [← hV] at K1
      have hVl : V.size = 16 := by rw [hV, List.size_toArray, bc_len]
      have hVo : Hid (V.all (·.oneCell') = true) := by rw [hV]; exact bc_one _ _
      have HV := hide hV
      have hZl : Z.toArray.size = 16 := by rw [HZ.out, List.size_toArray, bc_len]
      clear hV hV1
      go_wp2_with (refine wpList_load_row rfl 45 _ rfl (w.heap.size + 1 + 1 + 1) rfl 45 V1.toArray (0, 0) _ R2.out Tryd.underlying45 rfl (by rw [hV1l]; rfl) ?_)
      refine (K1.out).mono ?_
      rintro e w9 ⟨rfl, b9⟩
      have H9 := hide (HF.out.later b9)
      have R1' : Hid (w9.heap[w.heap.size + 1 + 1]? = some (.cells Z.toArray 45 (0, 0))) := H9.out.2.2.2.1
      clear b9 K1 R2 hz
      go_wp2_with (refine wpList_store_row rfl 45 _ _ rfl (w.heap.size + 1 + 1) V rfl rfl 45 Z.toArray R1'.out (by rw [hVl]; rfl) (by rw [hZl, hVl]) hVo.out ?_)
      refine bodyPost_ret (v := .agg V) (results_cell_row rfl _ _ (w.heap.size + 1 + 1) 45 V (0, 0) _ rfl (setRow_heap _ _ _ _ _ _ R1'.out) Tryd.underlying45 rfl (by rw [hVl]; rfl)) rfl ⟨by rw [HV.out], ?_⟩
      exact below_setRow H9.out.1 (by omega) _
end Go.Proofs.YtdfbcdgneboilaaDoor
