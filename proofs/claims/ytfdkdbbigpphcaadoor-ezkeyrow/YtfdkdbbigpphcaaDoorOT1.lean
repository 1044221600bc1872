/- Own: the contract of Round of layer 3; the contract of Last of layer 3; the contract of Unlast of layer 3; the contract of Unround of layer 3 (no statement is proved here). -/
import Derived.Test.YtfdkdbbigpphcaaDoorOG2
namespace Go.Proofs.YtfdkdbbigpphcaaDoor
open Go.ChangeShapes Go.WideShapes Go.ChangeAt Go.RowKit
set_option maxRecDepth 20000

/-- Four blocks of sixteen bytes that a call has laid. -/
def Four (w : World) (X Y Z O : List Value) (wr : World) : Prop :=
  Below w.heap.size w wr ∧ wr.heap[w.heap.size]? = some (.cells X.toArray 32 (0, 0)) ∧ wr.heap[w.heap.size + 1]? = some (.cells Y.toArray 32 (0, 0)) ∧ wr.heap[w.heap.size + 2]? = some (.cells Z.toArray 32 (0, 0)) ∧ wr.heap[w.heap.size + 3]? = some (.cells O.toArray 32 (0, 0))
theorem Four.start (w : World) (X Y Z O : List Value) : Four w X Y Z O ((((w.alloc (.cells X.toArray 32)).alloc (.cells Y.toArray 32)).alloc (.cells Z.toArray 32)).alloc (.cells O.toArray 32)) := by
  have l : ∀ {w : World} {g : Nat} {x : Obj} (o : Obj), w.heap[g]? = some x → (w.alloc o).heap[g]? = some x := fun {w g x} o e =>
    (((Below.refl w.heap.size w).alloc (Nat.le_refl _) o).block g (Array.getElem?_eq_some_iff.1 e).1).trans e
  have s : ∀ (w : World) (o : Obj), (w.alloc o).heap.size = w.heap.size + 1 := fun w o => by simp
  refine ⟨below_alloc (below_alloc (below_alloc (below_alloc (Below.refl _ _) _) _) _) _, l _ (l _ (l _ (heap_alloc_new _ _))), ?_, ?_, ?_⟩
  · rw [← s w (.cells X.toArray 32)]; exact l _ (l _ (heap_alloc_new _ _))
  · rw [show w.heap.size + 2 = w.heap.size + 1 + 1 from rfl, ← s w (.cells X.toArray 32), ← s _ (.cells Y.toArray 32)]; exact l _ (heap_alloc_new _ _)
  · rw [show w.heap.size + 3 = w.heap.size + 1 + 1 + 1 from rfl, ← s w (.cells X.toArray 32), ← s _ (.cells Y.toArray 32), ← s _ (.cells Z.toArray 32)]; exact heap_alloc_new _ _
theorem Four.drewN {w wr : World} {X Y Z O : List Value} (h : Four w X Y Z O wr) (n : Nat) : Four w X Y Z O (wr.drewN n) := ⟨below_drewN h.1 n, h.2⟩
theorem Four.drew {w wr : World} {X Y Z O : List Value} (h : Four w X Y Z O wr) : Four w X Y Z O wr.drew := ⟨h.1.drew, h.2⟩
theorem Four.later {w wr w' : World} {X Y Z O : List Value} (h : Four w X Y Z O wr) (hb : Below wr.heap.size wr w') : Four w X Y Z O w' := by
  obtain ⟨b, h1, h2, h3, h4⟩ := h
  have l : ∀ {g : Nat} {o : Obj}, wr.heap[g]? = some o → w'.heap[g]? = some o := fun {g o} e => (hb.block g (Array.getElem?_eq_some_iff.1 e).1).trans e
  exact ⟨below_two b hb, l h1, l h2, l h3, l h4⟩
theorem Four.set {w wr : World} {X Y Z O : List Value} (h : Four w X Y Z O wr) (i : Nat) (v : Value) : Four w X Y Z (O.set i v) (wr.setCell ⟨w.heap.size + 3, i, none⟩ v) := by
  obtain ⟨b, h1, h2, h3, h4⟩ := h
  refine ⟨b.setCell (by show w.heap.size ≤ w.heap.size + 3; omega) _, ?_, ?_, ?_, ?_⟩
  · rw [heap_setCell_other _ _ _ _ (by simp)]; exact h1
  · rw [heap_setCell_other _ _ _ _ (by simp)]; exact h2
  · rw [heap_setCell_other _ _ _ _ (by simp)]; exact h3
  · rw [heap_setCell_same _ _ _ _ _ _ h4, List.setIfInBounds_toArray]
theorem Four.other {w wr : World} {X Y Z O : List Value} (h : Four w X Y Z O wr) (g i : Nat) (v : Value) (hg : w.heap.size + 3 < g) : Four w X Y Z O (wr.setCell ⟨g, i, none⟩ v) := by
  obtain ⟨b, h1, h2, h3, h4⟩ := h
  refine ⟨b.setCell (by show w.heap.size ≤ g; omega) _, ?_, ?_, ?_, ?_⟩
  · rw [heap_setCell_other _ _ _ _ (by simp; omega)]; exact h1
  · rw [heap_setCell_other _ _ _ _ (by simp; omega)]; exact h2
  · rw [heap_setCell_other _ _ _ _ (by simp; omega)]; exact h3
  · rw [heap_setCell_other _ _ _ _ (by simp; omega)]; exact h4

/-- A new variable, laid whole. -/
theorem new_row (w : World) (Z A : Array Value) (t : TypeId) : Below w.heap.size w ((w.alloc (.cells Z t)).setRow w.heap.size A) ∧ ((w.alloc (.cells Z t)).setRow w.heap.size A).heap[w.heap.size]? = some (.cells A t (0, 0)) :=
  ⟨below_setRow (below_alloc (Below.refl _ _) _) (Nat.le_refl _) _, setRow_heap _ _ _ _ _ _ (heap_alloc_new _ _)⟩
theorem Four.size {w wr : World} {X Y Z O : List Value} (h : Four w X Y Z O wr) : w.heap.size + 3 < wr.heap.size := (Array.getElem?_eq_some_iff.1 h.2.2.2.2).1
theorem Four.cell {w wr : World} {X Y Z O : List Value} (h : Four w X Y Z O wr) (i : Nat) (hi : i < O.length) : ∃ v, wr.cell? ⟨w.heap.size + 3, i, none⟩ = some v ∧ wr.frozen? ⟨w.heap.size + 3, i, none⟩ = false :=
  ⟨O[i], by rw [cell_of_row wr _ _ _ _ _ h.2.2.2.2]; simp [hi], frozen_of_row wr _ _ _ _ h.2.2.2.2⟩

set_option linter.unusedSimpArgs false in
set_option maxRecDepth 100000 in
set_option maxHeartbeats 4000000 in
theorem round_core (g : Nat) (f k R : Nat → Nat) (m P : Nat → Nat → Nat) (w : World) (hf : Hid (∀ i, f i < 256)) (hk : Hid (∀ i, k i < 256))
    (hP : Hid (∀ n i, P n i < 256))
    (hm : Hid (∀ r a, r < 4 → a < 256 → m r a < 4294967296))
    (hT : Hid (∀ w', Below w.heap.size w w' → ∀ r a, r < 4 → a < 256 → w'.cell? ⟨g, 512 + r * 256 + a, none⟩ = some (.int .u32 (m r a : Nat))))
    (cP : Hid (∀ n, n < 4294967296 → ∀ w, Calls Tryd.prog 72 #[.int .u32 (n : Nat)] w fun e w' => e = .returned (.agg (bc 4 (P n)).toArray) ∧ Below w.heap.size w w'))
    (hR : Hid (∀ c r, c < 4 → r < 4 → P (colx (fun r => m r (f (shf c r))) 4) r ^^^ k (4 * c + r) = R (4 * c + r))) :
    Calls Tryd.prog 47 #[.pointer (some ⟨g, 0, none⟩), .agg (bc 16 f).toArray, .agg (bc 16 k).toArray] w fun e w' => e = .returned (.agg (bc 16 R).toArray) ∧ Below w.heap.size w w' := by
  obtain ⟨X, hX⟩ : ∃ X, X = bc 16 f := ⟨_, rfl⟩
  obtain ⟨Y, hY⟩ : ∃ Y, Y = bc 16 k := ⟨_, rfl⟩
  obtain ⟨Z, hZ⟩ : ∃ Z, Z = bc 16 (fun _ => 0) := ⟨_, rfl⟩
  have hz := zero16
  rw [← hX, ← hY]
  rw [← hZ] at hz
  have HX := hide hX
  have HY := hide hY
  have HZ := hide hZ
  clear hX hY hZ
  go_enter Tryd.func47, Tryd.ntmps47
  go_wp2
  clear hz
  go_loopw [16] (fun i wr => ∃ c : Nat, c ≤ 4 ∧ i = .int .i64 c ∧ Hid (Four w X Y Z (bc 16 (upto (4 * c) R)) wr)) (fun i _ => 4 - (intOf i).toNat)
  case atStart =>
    refine ⟨0, by omega, rfl, ?_⟩
    rw [Nat.mul_zero, upto_zero, ← HZ.out]
    exact Four.start w X Y Z Z
  case round =>
    obtain ⟨c, hc, rfl, HR⟩ := hrel
    by_cases hlt : c < 4
    · go_wp2_with fail
      go_loopw [19, 9] (fun i s w2 => ∃ r : Nat, r ≤ 4 ∧ i = .int .i64 r ∧ s = .int .u32 (colx (fun r => m r (f (shf c r))) r : Nat) ∧ Hid (Four w X Y Z (bc 16 (upto (4 * c) R)) w2)) (fun i _ _ => 4 - (intOf i).toNat)
      case atStart => exact ⟨0, by omega, rfl, rfl, HR⟩
      case round =>
        obtain ⟨r, hr, rfl, rfl, H2⟩ := hrel
        by_cases hlr : r < 4
        · obtain ⟨q, hq⟩ : ∃ q, q = shf c r := ⟨_, rfl⟩
          have hq16 : q < 16 := by rw [hq]; exact shf_lt c r hlt hlr
          obtain ⟨y, hy⟩ : ∃ y, y = f q := ⟨_, rfl⟩
          have hy256 : y < 256 := by rw [hy]; exact hf.out q
          obtain ⟨t, ht⟩ : ∃ t, t = m r y := ⟨_, rfl⟩
          have ht32 : t < 4294967296 := by rw [ht]; exact hm.out r y hlr hy256
          obtain ⟨s, hs⟩ : ∃ s, s = colx (fun r => m r (f (shf c r))) r := ⟨_, rfl⟩
          have hs32 : s < 4294967296 := by
            rw [hs]; exact colx_lt _ _ fun r' hr' => hm.out r' _ (by omega) (hf.out _)
          have e1 : wr.cell? ⟨w.heap.size, q, none⟩ = some (.int .u8 (y : Nat)) := by
            have := row_cell (by rw [← HX.out]; exact H2.out.2.1) q hq16
            rw [hy]; exact this
          have e2 : wr.cell? ⟨g, 512 + r * 256 + y, none⟩ = some (.int .u32 (t : Nat)) := by rw [ht]; exact hT.out wr H2.out.1 r y hlr hy256
          have K1 : Hid (∀ w, Calls Tryd.prog 71 #[.int .i64 c, .int .i64 r] w fun e w' => e = .returned (.int .i64 (q : Nat)) ∧ w' = w) := by rw [hq]; exact fun w => shifted_any c r hlt hlr w
          have hx : Hid (bits .xor .u32 (s : Int) (t : Int) = ((colx (fun r => m r (f (shf c r))) (r + 1) : Nat) : Int)) := by
            show _ = _
            rw [xor_u32 s t hs32 ht32, colx, hs, ht, hy, hq]
          rw [← hs]
          have i1 : (q : Int) < 16 := by omega
          have i2 : (y : Int) < 256 := by omega
          have i3 : (r : Int) < 4 := by omega
          have HS := hide hs
          clear hq hy ht hs HR hq16 hy256 ht32 hs32
          go_wp2_with fail
          go_quiet ((go_at_call 71; exact Calls.quiet_of_same (K1.out _)))
          go_wp2
          go_roundw
          case rel => exact ⟨r + 1, by omega, by go_num, by rw [hx.out], H2.out.drewN _⟩
          case measure => simp [intOf]; omega
        · obtain rfl : r = 4 := by omega
          obtain ⟨s, hs⟩ : ∃ s, s = colx (fun r => m r (f (shf c r))) 4 := ⟨_, rfl⟩
          have hs32 : s < 4294967296 := by
            rw [hs]; exact colx_lt _ _ fun r' hr' => hm.out r' _ (by omega) (hf.out _)
          rw [← hs]
          have K1 := hide (cP.out s hs32)
          have HS := hide hs
          clear HR hs32 hs
          go_wp2_with fail
          refine (K1.out _).mono ?_
          rintro e w3 ⟨rfl, b3⟩
          have H3 := hide (H2.out.later b3)
          have hz4 := zero4
          obtain ⟨Z4, hZ4⟩ : ∃ Z4, Z4 = bc 4 (fun _ => 0) := ⟨_, rfl⟩
          rw [← hZ4] at hz4
          have hZl : Z4.toArray.size = 4 := by rw [hZ4, List.size_toArray, bc_len]
          obtain ⟨A, hA⟩ : ∃ A, A = bc 4 (P s) := ⟨_, rfl⟩
          rw [← hA]
          have hAl : A.toArray.size = 4 := by rw [hA, List.size_toArray, bc_len]
          have hA1 : Hid (A.toArray.all (·.oneCell') = true) := by rw [hA]; exact bc_one _ _
          have HA := hide hA
          clear hZ4 b3 H2 hA
          go_wp2_with (refine wpList_store_row rfl 117 _ _ rfl w3.heap.size A.toArray rfl rfl 117 _ (heap_alloc_new _ _) (by rw [hAl]; rfl) (by rw [hAl, hZl]) hA1.out ?_)
          obtain ⟨nb, nr⟩ := new_row w3 Z4.toArray A.toArray 117
          have H4 := hide (H3.out.later nb)
          have H5 := hide nr
          have H6 := hide H3.out.size
          obtain ⟨g4, hg4⟩ : ∃ g4, g4 = w3.heap.size := ⟨_, rfl⟩
          obtain ⟨W, hW⟩ : ∃ W, W = (w3.alloc (.cells Z4.toArray 117)).setRow w3.heap.size A.toArray := ⟨_, rfl⟩
          rw [← hW] at H4 H5 ⊢
          rw [← hg4] at H5 H6 ⊢
          clear hz4 hZl hAl hA1 H3 nb nr hg4 hW K1
          go_loopw [39] (fun i wq => ∃ r : Nat, r ≤ 4 ∧ i = .int .i64 r ∧ Hid (Four w X Y Z (bc 16 (upto (4 * c + r) R)) wq ∧ wq.heap[g4]? = some (.cells A.toArray 117 (0, 0)))) (fun i _ => 4 - (intOf i).toNat)
          case atStart => exact ⟨0, by omega, rfl, H4.out, H5.out⟩
          case round =>
            obtain ⟨r, hr2, rfl, H7⟩ := hrel
            clear H4 H5
            by_cases hlr2 : r < 4
            · obtain ⟨x, hx⟩ : ∃ x, x = P s r := ⟨_, rfl⟩
              obtain ⟨y, hy⟩ : ∃ y, y = k (4 * c + r) := ⟨_, rfl⟩
              have e1 : wr.cell? ⟨g4, r, none⟩ = some (.int .u8 (x : Nat)) := by
                have := row_cell (by rw [← HA.out]; exact H7.out.2) r hlr2
                rw [hx]; exact this
              obtain ⟨d, hd⟩ : ∃ d, d = 4 * c := ⟨_, rfl⟩
              obtain ⟨j, hj⟩ : ∃ j, j = d + r := ⟨_, rfl⟩
              have w1 : IntKind.i64.wrap (4 * (c : Int)) = (d : Int) := by rw [IntKind.wrap_i64]; omega
              have w2 : IntKind.i64.wrap ((d : Int) + (r : Int)) = (j : Int) := by rw [IntKind.wrap_i64]; omega
              have hj4 : j = 4 * c + r := by omega
              rw [← hj4] at hy H7
              have e2 : wr.cell? ⟨w.heap.size + 1, j, none⟩ = some (.int .u8 (y : Nat)) := by
                have := row_cell (by rw [← HY.out]; exact H7.out.1.2.2.1) j (by omega)
                rw [hy]; exact this
              obtain ⟨o, e3, e4⟩ := H7.out.1.cell j (by rw [bc_len]; omega)
              have hg4 := H6.out
              have HE : Hid (bits .xor .u8 (x : Int) (y : Int) = ((R j : Nat) : Int)) := by
                show _ = _
                rw [xor_u8 x y (by rw [hx]; exact hP.out _ _) (by rw [hy]; exact hk.out _), hx, hy, HS.out, hj4, hR.out c r hlt hlr2]
              have i1 : (r : Int) < 4 := by omega
              have i2 : (j : Int) < 16 := by omega
              have HJ := hide hj4
              clear hx hy hd hj hj4
              go_wp2_with fail
              refine wp_region_held_drew (S := fun w' => w'.cell? ⟨g4, r, none⟩ = some (.int .u8 (x : Nat)) ∧ w'.cell? ⟨w.heap.size + 1, j, none⟩ = some (.int .u8 (y : Nat))) (by kernel_rfl) ?_ (fun hHeld => ?_)
              · exact ⟨e1, e2⟩
              refine wpAnyH_take (i := 0) (v := ?_) rfl (by kernel_rfl) (by kernel_rfl) (by kernel_rfl) (fun _ _ _ h => h) (Or.inl ⟨by rfl, ?_⟩) (by assumption) ?_
              rotate_left
              · (intro w hSw; (try dsimp only at hSw); simp only [List.getElem_toArray, List.getElem_cons_zero]; go_simp; try with_reducible rfl)
              simp only [Act.put, List.getElem_toArray, List.getElem_cons_zero, List.setIfInBounds_toArray, List.set_cons_zero, List.set_cons_succ]
              refine wpAnyH_take (i := 1) (v := ?_) rfl (by kernel_rfl) (by kernel_rfl) (by kernel_rfl) (fun _ _ _ h => h) (Or.inl ⟨by rfl, ?_⟩) (by assumption) ?_
              rotate_left
              · (intro w hSw; (try dsimp only at hSw); simp only [List.getElem_toArray, List.getElem_cons_succ, List.getElem_cons_zero]; go_simp; try with_reducible rfl)
              simp only [Act.put, List.getElem_toArray, List.getElem_cons_succ, List.getElem_cons_zero, List.setIfInBounds_toArray, List.set_cons_zero, List.set_cons_succ]
              refine wpAnyH_take (i := 2) (v := ?_) rfl (by kernel_rfl) (by kernel_rfl) (by kernel_rfl) (fun _ _ _ h => h) (Or.inl ⟨by rfl, ?_⟩) (by assumption) ?_
              rotate_left
              · (intro w hSw; (try dsimp only at hSw); simp only [List.getElem_toArray, List.getElem_cons_succ, List.getElem_cons_zero]; go_simp; try with_reducible rfl)
              simp only [Act.put, List.getElem_toArray, List.getElem_cons_succ, List.getElem_cons_zero, List.setIfInBounds_toArray, List.set_cons_zero, List.set_cons_succ]
              refine wpAnyH_take (i := 3) (v := ?_) rfl (by kernel_rfl) (by kernel_rfl) (by kernel_rfl) (fun _ _ _ h => h) (Or.inl ⟨by rfl, ?_⟩) (by assumption) ?_
              rotate_left
              · (intro w hSw; (try dsimp only at hSw); simp only [List.getElem_toArray, List.getElem_cons_succ, List.getElem_cons_zero]; go_simp; try with_reducible rfl)
              simp only [Act.put, List.getElem_toArray, List.getElem_cons_succ, List.getElem_cons_zero, List.setIfInBounds_toArray, List.set_cons_zero, List.set_cons_succ]
              refine wpAnyH_take (i := 4) (v := ?_) rfl (by kernel_rfl) (by kernel_rfl) (by kernel_rfl) (fun _ _ _ h => h) (Or.inl ⟨by rfl, ?_⟩) (by assumption) ?_
              rotate_left
              · (intro w hSw; (try dsimp only at hSw); simp only [List.getElem_toArray, List.getElem_cons_succ, List.getElem_cons_zero]; go_simp; try with_reducible rfl)
              simp only [Act.put, List.getElem_toArray, List.getElem_cons_succ, List.getElem_cons_zero, List.setIfInBounds_toArray, List.set_cons_zero, List.set_cons_succ]
              refine wpAnyH_take (i := 5) (v := ?_) rfl (by kernel_rfl) (by kernel_rfl) (by kernel_rfl) (fun _ _ _ h => h) (Or.inl ⟨by rfl, ?_⟩) (by assumption) ?_
              rotate_left
              · (intro w hSw; (try dsimp only at hSw); simp only [List.getElem_toArray, List.getElem_cons_succ, List.getElem_cons_zero]; go_simp; try with_reducible rfl)
              simp only [Act.put, List.getElem_toArray, List.getElem_cons_succ, List.getElem_cons_zero, List.setIfInBounds_toArray, List.set_cons_zero, List.set_cons_succ]
              refine wpAnyH_take (i := 6) (v := ?_) rfl (by kernel_rfl) (by kernel_rfl) (by kernel_rfl) (fun _ _ _ h => h) (Or.inl ⟨by rfl, ?_⟩) (by assumption) ?_
              rotate_left
              · (intro w hSw; (try dsimp only at hSw); simp only [List.getElem_toArray, List.getElem_cons_succ, List.getElem_cons_zero]; go_simp; try with_reducible rfl)
              simp only [Act.put, List.getElem_toArray, List.getElem_cons_succ, List.getElem_cons_zero, List.setIfInBounds_toArray, List.set_cons_zero, List.set_cons_succ]
              refine wpAnyH_take (i := 7) (v := ?_) rfl (by kernel_rfl) (by kernel_rfl) (by kernel_rfl) (fun _ _ _ h => h) (Or.inl ⟨by rfl, ?_⟩) (by assumption) ?_
              rotate_left
              · (intro w hSw; (try dsimp only at hSw); simp only [List.getElem_toArray, List.getElem_cons_succ, List.getElem_cons_zero]; go_simp; try with_reducible rfl)
              simp only [Act.put, List.getElem_toArray, List.getElem_cons_succ, List.getElem_cons_zero, List.setIfInBounds_toArray, List.set_cons_zero, List.set_cons_succ]
              refine wpAnyH_take (i := 8) (v := ?_) rfl (by kernel_rfl) (by kernel_rfl) (by kernel_rfl) (fun _ _ _ h => h) (Or.inl ⟨by rfl, ?_⟩) (by assumption) ?_
              rotate_left
              · (intro w hSw; (try dsimp only at hSw); simp only [List.getElem_toArray, List.getElem_cons_succ, List.getElem_cons_zero]; go_simp; try with_reducible rfl)
              simp only [Act.put, List.getElem_toArray, List.getElem_cons_succ, List.getElem_cons_zero, List.setIfInBounds_toArray, List.set_cons_zero, List.set_cons_succ]
              refine wpAnyH_take (i := 9) (v := ?_) rfl (by kernel_rfl) (by kernel_rfl) (by kernel_rfl) (fun _ _ _ h => h) (Or.inl ⟨by rfl, ?_⟩) (by assumption) ?_
              rotate_left
              · (intro w hSw; (try dsimp only at hSw); simp only [List.getElem_toArray, List.getElem_cons_succ, List.getElem_cons_zero]; go_simp; try with_reducible rfl)
              simp only [Act.put, List.getElem_toArray, List.getElem_cons_succ, List.getElem_cons_zero, List.setIfInBounds_toArray, List.set_cons_zero, List.set_cons_succ]
              refine wpAnyH_take (i := 10) (v := ?_) rfl (by kernel_rfl) (by kernel_rfl) (by kernel_rfl) (fun _ _ _ h => h) (Or.inl ⟨by rfl, ?_⟩) (by assumption) ?_
              rotate_left
              · (intro w hSw; (try dsimp only at hSw); simp only [List.getElem_toArray, List.getElem_cons_succ, List.getElem_cons_zero]; go_simp; try with_reducible rfl)
              simp only [Act.put, List.getElem_toArray, List.getElem_cons_succ, List.getElem_cons_zero, List.setIfInBounds_toArray, List.set_cons_zero, List.set_cons_succ]
              refine wpAnyH_take (i := 11) (v := ?_) rfl (by kernel_rfl) (by kernel_rfl) (by kernel_rfl) (fun _ _ _ h => h) (Or.inl ⟨by rfl, ?_⟩) (by assumption) ?_
              rotate_left
              · (intro w hSw; (try dsimp only at hSw); simp only [List.getElem_toArray, List.getElem_cons_succ, List.getElem_cons_zero]; go_simp; try with_reducible rfl)
              simp only [Act.put, List.getElem_toArray, List.getElem_cons_succ, List.getElem_cons_zero, List.setIfInBounds_toArray, List.set_cons_zero, List.set_cons_succ]
              refine wpAnyH_take (i := 12) (v := ?_) rfl (by kernel_rfl) (by kernel_rfl) (by kernel_rfl) (fun _ _ _ h => h) (Or.inl ⟨by rfl, ?_⟩) (by assumption) ?_
              rotate_left
              · (intro w hSw; (try dsimp only at hSw); simp only [List.getElem_toArray, List.getElem_cons_succ, List.getElem_cons_zero]; go_simp; try with_reducible rfl)
              simp only [Act.put, List.getElem_toArray, List.getElem_cons_succ, List.getElem_cons_zero, List.setIfInBounds_toArray, List.set_cons_zero, List.set_cons_succ]
              refine wpAnyH_take (i := 13) (v := ?_) rfl (by kernel_rfl) (by kernel_rfl) (by kernel_rfl) (fun _ _ _ h => h) (Or.inl ⟨by rfl, ?_⟩) (by assumption) ?_
              rotate_left
              · (intro w hSw; (try dsimp only at hSw); simp only [List.getElem_toArray, List.getElem_cons_succ, List.getElem_cons_zero]; go_simp; try with_reducible rfl)
              simp only [Act.put, List.getElem_toArray, List.getElem_cons_succ, List.getElem_cons_zero, List.setIfInBounds_toArray, List.set_cons_zero, List.set_cons_succ]
              refine wpAnyH_take (i := 14) (v := ?_) rfl (by kernel_rfl) (by kernel_rfl) (by kernel_rfl) (fun _ _ _ h => h) (Or.inl ⟨by rfl, ?_⟩) (by assumption) ?_
              rotate_left
              · (intro w hSw; (try dsimp only at hSw); simp only [List.getElem_toArray, List.getElem_cons_succ, List.getElem_cons_zero]; go_simp; try with_reducible rfl)
              simp only [Act.put, List.getElem_toArray, List.getElem_cons_succ, List.getElem_cons_zero, List.setIfInBounds_toArray, List.set_cons_zero, List.set_cons_succ]
              refine wpAnyH_ready (rs := [15]) (by kernel_rfl) (by simp) ?_
              refine AllReadyH.cons rfl (fun K hK => ?_) AllReadyH.nil
              simp only [List.getElem_toArray, List.getElem_cons_succ, List.getElem_cons_zero]
              go_simp
              refine hK.out _ _ ?_ (fun hHeld => ?_)
              · exact ⟨far hHeld.1 (by simpa using (show g4 ≠ w.heap.size + 3 by omega)), far hHeld.2 (by simp)⟩
              clear hK K
              try simp only [Act.put, List.setIfInBounds_toArray, List.set_cons_zero, List.set_cons_succ]
              refine wpAnyH_done (by kernel_rfl) ?_ _
              go_wp2
              go_roundw
              case rel =>
                refine ⟨r + 1, by omega, by go_num, ?_⟩
                have h1 := (H7.out.1.set j (.int .u8 (R j : Nat))).drew
                rw [upto_set] at h1
                rw [HE.out, show 4 * c + (r + 1) = j + 1 by rw [HJ.out]; omega]
                refine ⟨h1, ?_⟩
                show (wr.setCell _ _).heap[g4]? = _
                rw [heap_setCell_other _ _ _ _ (by simp; omega)]; exact H7.out.2
              case measure => simp [intOf]; omega
            · obtain rfl : r = 4 := by omega
              go_wp2
              go_roundw
              case rel => exact ⟨c + 1, by omega, by go_num, H7.out.1⟩
              case measure => simp [intOf]; omega
    · obtain rfl : c = 4 := by omega
      have HF : Hid (Four w X Y Z (bc 16 R) wr) := by
        have := HR.out
        rw [show 4 * 4 = 16 from rfl, upto_all] at this
        exact this
      clear HR hlt hc
      obtain ⟨V, hV⟩ : ∃ V, V = (bc 16 R).toArray := ⟨_, rfl⟩
      have hVl : V.size = 16 := by rw [hV, List.size_toArray, bc_len]
      have hV1 : Hid (V.all (·.oneCell') = true) := by rw [hV]; exact bc_one _ _
      have HV := hide hV
      have R2 : Hid (wr.heap[w.heap.size + 1 + 1 + 1]? = some (.cells V 32 (0, 0))) := by rw [hV]; exact HF.out.2.2.2.2
      have R1 : Hid (wr.heap[w.heap.size + 1 + 1]? = some (.cells Z.toArray 32 (0, 0))) := HF.out.2.2.2.1
      have hZl : Z.toArray.size = 16 := by rw [HZ.out, List.size_toArray, bc_len]
      clear hV
      go_wp2_with (first
        | (refine wpList_load_row rfl 32 _ rfl (w.heap.size + 1 + 1 + 1) rfl 32 V (0, 0) _ R2.out Tryd.underlying32 rfl (by rw [hVl]; rfl) ?_)
        | (refine wpList_store_row rfl 32 _ _ rfl (w.heap.size + 1 + 1) V rfl rfl 32 Z.toArray R1.out (by rw [hVl]; rfl) (by rw [hZl, hVl]) hV1.out ?_))
      refine bodyPost_ret (v := .agg V) (results_cell_row rfl _ _ (w.heap.size + 1 + 1) 32 V (0, 0) _ rfl (setRow_heap _ _ _ _ _ _ R1.out) Tryd.underlying32 rfl (by rw [hVl]; rfl)) rfl ⟨by rw [HV.out], ?_⟩
      exact below_setRow HF.out.1 (by omega) _
end Go.Proofs.YtfdkdbbigpphcaaDoor
namespace Go.Proofs.YtfdkdbbigpphcaaDoor
open Go.ChangeShapes Go.WideShapes Go.ChangeAt Go.RowKit
set_option maxRecDepth 20000

end Go.Proofs.YtfdkdbbigpphcaaDoor
namespace Go.Proofs.YtfdkdbbigpphcaaDoor
open Go.ChangeShapes Go.WideShapes Go.ChangeAt Go.RowKit
set_option maxRecDepth 20000

/-- Those whose place ahead of the shift is among the first. -/
def uptb (k : Nat) (f : Nat → Nat) (i : Nat) : Nat := if shb i < k then f i else 0
theorem uptb_set (c r : Nat) (hc : c < 4) (hr : r < 4) (f : Nat → Nat) : (bc 16 (uptb (4 * c + r) f)).set (shf c r) (.int .u8 (f (shf c r) : Nat)) = bc 16 (uptb (4 * c + r + 1) f) := by
  rw [bc_set]
  refine bc_congr fun i hi => ?_
  have e := shb_shf c r hc hr
  unfold uptb
  by_cases h : i = shf c r
  · subst h; rw [if_pos rfl, if_pos (by omega)]
  · have h' : shb i ≠ 4 * c + r := fun h2 => h (by
      have h3 := shi_shb i hi
      rw [h2] at h3
      rw [← h3]
      unfold shi
      rw [(quad c r hr).1, (quad c r hr).2])
    rw [if_neg h]
    by_cases h2 : shb i < 4 * c + r
    · rw [if_pos h2, if_pos (by omega)]
    · rw [if_neg h2, if_neg (by omega)]
theorem uptb_zero (f : Nat → Nat) : bc 16 (uptb 0 f) = bc 16 fun _ => 0 := bc_congr fun i _ => by unfold uptb; rw [if_neg (by omega)]
theorem uptb_all (f : Nat → Nat) : bc 16 (uptb 16 f) = bc 16 f := bc_congr fun i hi => by unfold uptb; rw [if_pos (shb_lt i hi)]
end Go.Proofs.YtfdkdbbigpphcaaDoor
namespace Go.Proofs.YtfdkdbbigpphcaaDoor
open Go.ChangeShapes Go.WideShapes Go.ChangeAt Go.RowKit
set_option maxRecDepth 20000

theorem quad_row (c : Nat) (hc : c < 4) (R : Nat → Nat) : (bc 16 (upto (4 * c) R)).take (4 * c) ++ bc 4 (fun i => R (4 * c + i)) ++ (bc 16 (upto (4 * c) R)).drop (4 * c + 4) = bc 16 (upto (4 * c + 4) R) := by
  match c, hc with
  | 0, _ => rfl
  | 1, _ => rfl
  | 2, _ => rfl
  | 3, _ => rfl
theorem copy_quad (W : World) (g q c d n m : Nat) (hc : c < 4) (hd : d = 4 * c) (hn : n = 16 - d) (R : Nat → Nat) (t t' : TypeId) (hg : W.heap[g]? = some (.cells (bc 16 (upto (4 * c) R)).toArray t (0, 0))) (hq : W.heap[q]? = some (.cells (bc 4 fun i => R (4 * c + i)).toArray t' (0, 0))) :
    (Builtin.copy_ #[22, 22] 3 #[.slice (some ⟨g, d, none⟩) n m, .slice (some ⟨q, 0, none⟩) 4 4]).run Tryd.prog W = .ok (goInt 4) (W.setRow g (bc 16 (upto (4 * c + 4) R)).toArray) := by
  subst hd hn
  have h := run_copy_row (P := Tryd.prog) W 22 22 3 5 g (4 * c) (16 - 4 * c) m ⟨q, 0, none⟩ 4 4 (bc 16 (upto (4 * c) R)).toArray t (bc 4 fun i => R (4 * c + i)) Tryd.underlying22 rfl hg (by rw [bc_len]; show _ = min _ _; omega)
    (fun j v hj => by rw [addr_add, cell_of_row W q _ _ _ _ hq]; simpa using hj) (by rw [bc_len, List.size_toArray, bc_len]; omega) (fun v hv => by unfold bc at hv; obtain ⟨i, _, rfl⟩ := List.mem_map.1 hv; rfl)
  rw [bc_len] at h
  rw [← quad_row c hc R]
  exact h

end Go.Proofs.YtfdkdbbigpphcaaDoor
