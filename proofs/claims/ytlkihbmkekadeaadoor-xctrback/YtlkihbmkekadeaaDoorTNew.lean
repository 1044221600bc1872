/- Own: the tables of layer 3, and the contract of New (no statement is proved here). -/
import Derived.Test.YtlkihbmkekadeaaDoorTPut
namespace Go.Proofs.YtlkihbmkekadeaaDoor
open Go.ChangeShapes Go.WideShapes Go.ChangeAt Go.RowKit
set_option maxRecDepth 20000

/-! Four bytes as a number. -/
theorem isB_bc (w : World) (n : Nat) (f : Nat → Nat) (hf : Byt f) (t : TypeId) (h : w.heap[n]? = some (.cells (bc 4 f).toArray t (0, 0))) : IsB w (.slice (some ⟨n, 0, none⟩) 4 4) (toB 4 f) := by
  refine ⟨by rw [toB_len]; decide, _, 4, by rw [toB_len], .inr ⟨n, 0, rfl, fun i hi => ?_⟩⟩
  rw [toB_len] at hi
  rw [Nat.zero_add, row_cell h i hi]
  have := toB_get 4 f hf i hi
  unfold lf at this
  rw [this]
theorem num_wd (f : Nat → Nat) (hf : Byt f) : num (toB 4 f) 0 4 = wd f := by
  have b : ∀ k : Nat, k < 4 → byteAt (toB 4 f) (0 + (k : Int)) = f k := fun k hk => by
    rw [byteAt_in _ _ (by omega) (by rw [toB_len]; omega)]
    have := toB_get 4 f hf k hk
    unfold lf at this
    rw [show (0 + (k : Int)).toNat = k by omega]
    exact this
  have e : num (toB 4 f) 0 4 = 0 + byteAt (toB 4 f) (0 + ((0 : Nat) : Int)) * 2 ^ (8 * 0) + byteAt (toB 4 f) (0 + ((1 : Nat) : Int)) * 2 ^ (8 * 1) + byteAt (toB 4 f) (0 + ((2 : Nat) : Int)) * 2 ^ (8 * 2) + byteAt (toB 4 f) (0 + ((3 : Nat) : Int)) * 2 ^ (8 * 3) := rfl
  rw [e, b 0 (by decide), b 1 (by decide), b 2 (by decide), b 3 (by decide)]
  unfold wd
  omega
theorem word_bc (f : Nat → Nat) (hf : Byt f) (w : World) (n : Nat) (t : TypeId) (h : w.heap[n]? = some (.cells (bc 4 f).toArray t (0, 0))) :
    Calls Tryd.prog 58 #[.slice (some ⟨n, 0, none⟩) 4 4, .int .i64 0] w fun e w' => e = .returned (.int .u32 (wd f : Nat)) ∧ Below w.heap.size w w' := by
  have := word_any _ _ 0 w (isB_bc w n f hf t h)
  rw [num_wd f hf] at this
  exact this

/-! The tables' cells. -/
def fin (j : Nat) : Value := if j < 256 then .int .u8 (sbox j : Nat) else if j < 512 then .int .u8 (isb (j - 256) : Nat) else if j < 1536 then .int .u32 (tw mixM ((j - 512) / 256) (sbox (j % 256)) : Nat) else .int .u32 (tw unM ((j - 1536) / 256) (j % 256) : Nat)
def zer (j : Nat) : Value := if j < 512 then .int .u8 0 else .int .u32 0
/-- All of the bytes below k. -/
def tl0 (F Z : Nat → Value) (k : Nat) : List Value := (List.range 2560).map fun j => if j % 256 < k then F j else Z j
/-- And of k the boxes and the rows below r. -/
def tl1 (F Z : Nat → Value) (k r : Nat) : List Value := (List.range 2560).map fun j => if j % 256 < k ∨ (j % 256 = k ∧ (j < 512 ∨ (j - 512) / 256 % 4 < r)) then F j else Z j
theorem map_set {n i : Nat} {v : Value} {F G : Nat → Value} (h : G i = v) (h' : ∀ j, j < n → j ≠ i → F j = G j) : ((List.range n).map F).set i v = (List.range n).map G := by
  apply List.ext_getElem
  · rw [List.length_set, List.length_map, List.length_map]
  · intro j h1 h2
    rw [List.length_map, List.length_range] at h2
    rw [List.getElem_set]
    simp only [List.getElem_map, List.getElem_range]
    by_cases e : i = j
    · rw [if_pos e, ← e, h]
    · rw [if_neg e, h' j h2 (Ne.symm e)]
theorem tl0_len (F Z : Nat → Value) (k : Nat) : (tl0 F Z k).length = 2560 := by unfold tl0; rw [List.length_map, List.length_range]
theorem tl1_len (F Z : Nat → Value) (k r : Nat) : (tl1 F Z k r).length = 2560 := by unfold tl1; rw [List.length_map, List.length_range]
theorem tl_first (F Z : Nat → Value) (a : Nat) (ha : a < 256) : ((tl0 F Z a).set a (F a)).set (256 + a) (F (256 + a)) = tl1 F Z a 0 := by
  unfold tl0 tl1
  rw [map_set (G := fun j => if j % 256 < a ∨ j = a then F j else Z j) (if_pos (.inr rfl)) (fun j _ hj => by simp [hj]),
    map_set (G := fun j => if j % 256 < a ∨ (j % 256 = a ∧ (j < 512 ∨ (j - 512) / 256 % 4 < 0)) then F j else Z j) (if_pos (.inr ⟨by omega, .inl (by omega)⟩)) ?_]
  intro j _ hj
  by_cases h : j % 256 < a ∨ j = a
  · rw [if_pos h, if_pos]
    rcases h with h | h
    · exact .inl h
    · exact .inr ⟨by omega, .inl (by omega)⟩
  · rw [if_neg h, if_neg]
    rintro (h' | ⟨h1, h2 | h2⟩)
    · exact h (.inl h')
    · exact h (.inr (by omega))
    · omega
theorem tl_next (F Z : Nat → Value) (a r : Nat) (ha : a < 256) (hr : r < 4) : ((tl1 F Z a r).set (512 + r * 256 + a) (F (512 + r * 256 + a))).set (1536 + r * 256 + a) (F (1536 + r * 256 + a)) = tl1 F Z a (r + 1) := by
  unfold tl1
  rw [map_set (G := fun j => if j % 256 < a ∨ (j % 256 = a ∧ (j < 512 ∨ (j - 512) / 256 % 4 < r)) ∨ j = 512 + r * 256 + a then F j else Z j) (if_pos (.inr (.inr rfl))) (fun j _ hj => by simp [hj]),
    map_set (G := fun j => if j % 256 < a ∨ (j % 256 = a ∧ (j < 512 ∨ (j - 512) / 256 % 4 < r + 1)) then F j else Z j) (if_pos (.inr ⟨by omega, .inr (by omega)⟩)) ?_]
  intro j hj2 hj
  by_cases h : j % 256 < a ∨ (j % 256 = a ∧ (j < 512 ∨ (j - 512) / 256 % 4 < r)) ∨ j = 512 + r * 256 + a
  · rw [if_pos h, if_pos]
    omega
  · rw [if_neg h, if_neg]
    omega
theorem tl_last (F Z : Nat → Value) (a : Nat) : tl1 F Z a 4 = tl0 F Z (a + 1) := by
  unfold tl0 tl1
  refine List.map_congr_left fun j _ => ?_
  by_cases h : j % 256 < a + 1
  · rw [if_pos h, if_pos (by omega)]
  · rw [if_neg h, if_neg (by omega)]
theorem tl1_get (F Z : Nat → Value) (a r : Nat) (ha : a < 256) : (tl1 F Z a r)[a]? = some (F a) := by
  unfold tl1
  rw [List.getElem?_map, List.getElem?_range (by omega)]
  simp only [Option.map_some]
  rw [if_pos (.inr ⟨by omega, .inl (by omega)⟩)]
theorem tl0_get (F Z : Nat → Value) (j : Nat) (hj : j < 2560) : (tl0 F Z 256)[j]? = some (F j) := by
  unfold tl0
  rw [List.getElem?_map, List.getElem?_range hj]
  simp only [Option.map_some]
  rw [if_pos (by omega)]
theorem tl0_zero (F : Nat → Value) : tl0 F zer 0 = List.replicate 512 (.int .u8 0) ++ List.replicate 2048 (.int .u32 0) := by
  apply List.ext_getElem
  · rw [tl0_len, List.length_append, List.length_replicate, List.length_replicate]
  · intro j h1 h2
    rw [tl0_len] at h1
    simp only [tl0, List.getElem_map, List.getElem_range, Nat.not_lt_zero, if_false, zer]
    by_cases h : j < 512
    · rw [if_pos h, List.getElem_append_left (by rw [List.length_replicate]; exact h), List.getElem_replicate]
    · rw [if_neg h, List.getElem_append_right (by rw [List.length_replicate]; omega), List.getElem_replicate]
theorem zero_tabs (w : World) : (zeroValue 87).run Tryd.prog w = .ok (.agg (List.replicate 512 (Value.int .u8 0) ++ List.replicate 2048 (Value.int .u32 0)).toArray) w := by kernel_rfl

/-- The two tables of coefficients lie as the program's text lays them. -/
def Laid (w : World) : Prop := ∀ i r, i < 4 → r < 4 → w.cell? ⟨0, i * 4 + r, none⟩ = some (.int .u8 (mixM i r : Nat)) ∧ w.cell? ⟨1, i * 4 + r, none⟩ = some (.int .u8 (unM i r : Nat))
theorem Laid.size {w : World} (h : Laid w) : 1 < w.heap.size := World.block_lt_of_cell? _ _ (h 0 0 (by decide) (by decide)).2
theorem Laid.below {w w' : World} {B : Nat} (h : Laid w) (hB : 1 < B) (hb : Below B w w') : Laid w' := fun i r hi hr =>
  ⟨(hb.cell (p := ⟨0, i * 4 + r, none⟩) (by show 0 < B; omega)).trans (h i r hi hr).1, (hb.cell (p := ⟨1, i * 4 + r, none⟩) hB).trans (h i r hi hr).2⟩
theorem Laid.later {w w' : World} (h : Laid w) (hb : Below w.heap.size w w') : Laid w' := h.below h.size hb

theorem tput_any (g gb a : Nat) (w : World) (ha : a < 256) (hl : Laid w) (hg1 : 1 < g) (hb : IsBoxes w gb) (hg : w.heap[g]? = some (.cells (tl0 fin zer a).toArray 87 (0, 0))) :
    Calls Tryd.prog 60 #[.pointer (some ⟨g, 0, none⟩), .int .u8 (a : Nat), .pointer (some ⟨gb, 0, none⟩)] w fun e w' => e = .returned (.tuple #[]) ∧ w'.heap[g]? = some (.cells (tl0 fin zer (a + 1)).toArray 87 (0, 0)) ∧ Below g w w' := by
  have ba := sbox_lt a ha
  have f0 : fin a = .int .u8 (sbox a : Nat) := by unfold fin; rw [if_pos ha]
  have f1 : fin (256 + a) = .int .u8 (isb a : Nat) := by unfold fin; rw [if_neg (by omega), if_pos (by omega), show 256 + a - 256 = a by omega]
  have f2 : ∀ r, r < 4 → fin (512 + r * 256 + a) = .int .u32 (tw mixM r (sbox a) : Nat) := fun r hr => by
    unfold fin; rw [if_neg (by omega), if_neg (by omega), if_pos (by omega), show (512 + r * 256 + a - 512) / 256 = r by omega, show (512 + r * 256 + a) % 256 = a by omega]
  have f3 : ∀ r, r < 4 → fin (1536 + r * 256 + a) = .int .u32 (tw unM r a : Nat) := fun r hr => by
    unfold fin; rw [if_neg (by omega), if_neg (by omega), if_neg (by omega), show (1536 + r * 256 + a - 1536) / 256 = r by omega, show (1536 + r * 256 + a) % 256 = a by omega]
  have X : ∀ (M : Nat → Nat → Nat) (hM : ∀ i r, i < 4 → r < 4 → M i r < 256) (x r : Nat), r < 4 → Byt fun i => if i < 4 then times (M i r) x else 0 := fun M hM x r hr i => by
    show (if i < 4 then times (M i r) x else 0) < 256
    by_cases h : i < 4
    · rw [if_pos h]; exact times_lt _ _ (hM i r h hr)
    · rw [if_neg h]; decide
  have W : ∀ (M : Nat → Nat → Nat) (hM : ∀ i r, i < 4 → r < 4 → M i r < 256) (x r : Nat), r < 4 → ∀ (w : World) (n : Nat), w.heap[n]? = some (.cells (bc 4 fun i => times (M i r) x).toArray 71 (0, 0)) → Calls Tryd.prog 58 #[.slice (some ⟨n, 0, none⟩) 4 4, .int .i64 0] w fun e w' => e = .returned (.int .u32 (tw M r x : Nat)) ∧ Below w.heap.size w w' := by
    intro M hM x r hr w n hn
    have e : bc 4 (fun i => times (M i r) x) = bc 4 fun i => if i < 4 then times (M i r) x else 0 := bc_congr fun i hi => by rw [if_pos hi]
    rw [e] at hn
    have := word_bc _ (X M hM x r hr) w n _ hn
    have e2 : wd (fun i => if i < 4 then times (M i r) x else 0) = tw M r x := rfl
    rw [e2] at this
    exact this
  have := tput_core g gb a (sbox a) (isb a) (tl0 fin zer a) (tl1 fin zer a) mixM unM (fun r i => times (mixM i r) (sbox a)) (fun r i => times (unM i r) a) (fun r => tw mixM r (sbox a)) (fun r => tw unM r a) w ha hg1 hg (tl0_len _ _ _) (fun r => tl1_len _ _ _ r)
    (by rw [← f0, ← f1]; exact tl_first fin zer a ha) (fun r _ => by rw [← f0]; exact tl1_get fin zer a r ha) (fun r hr => by rw [← f2 r hr, ← f3 r hr]; exact tl_next fin zer a r ha hr)
    (to_box gb a ha w.drew hb) (back_box gb a ha w.drew hb) (fun w' hb' i r hi hr => hl.below hg1 hb' i r hi hr)
    (fun i r hi hr w => times_any _ _ (mixM_lt i r hi hr) ba w) (fun i r hi hr w => times_any _ _ (unM_lt i r hi hr) ha w)
    (fun r hr w n hn => W mixM (fun i r hi hr => mixM_lt i r hi hr) (sbox a) r hr w n hn) (fun r hr w n hn => W unM (fun i r hi hr => unM_lt i r hi hr) a r hr w n hn)
  rw [tl_last] at this
  exact this

/-- What a world holds at g: the tables. -/
def IsTab (w : World) (g : Nat) : Prop := g < w.heap.size ∧ ∀ j, j < 2560 → w.cell? ⟨g, j, none⟩ = some (fin j)
theorem IsTab.later {w w' : World} {g : Nat} (h : IsTab w g) (hb : Below w.heap.size w w') : IsTab w' g :=
  ⟨Nat.lt_of_lt_of_le h.1 hb.size, fun j hj => (hb.cell h.1).trans (h.2 j hj)⟩
theorem IsTab.lt {w : World} {g : Nat} (h : IsTab w g) : g < w.heap.size := h.1
theorem IsTab.cell {w : World} {g : Nat} (h : IsTab w g) (j : Nat) (hj : j < 2560) : w.cell? ⟨g, j, none⟩ = some (fin j) := h.2 j hj
theorem IsTab.of {w : World} {g : Nat} (h : w.heap[g]? = some (.cells (tl0 fin zer 256).toArray 87 (0, 0))) : IsTab w g :=
  ⟨(Array.getElem?_eq_some_iff.1 h).1, fun j hj => by rw [cell_of_row w g _ _ _ _ h]; simpa using tl0_get fin zer j hj⟩
theorem IsTab.box {w : World} {g : Nat} (h : IsTab w g) (a : Nat) (ha : a < 256) : w.cell? ⟨g, a, none⟩ = some (.int .u8 (sbox a : Nat)) := by
  rw [h.cell a (by omega)]; unfold fin; rw [if_pos ha]
theorem IsTab.back {w : World} {g : Nat} (h : IsTab w g) (a : Nat) (ha : a < 256) : w.cell? ⟨g, 256 + a, none⟩ = some (.int .u8 (isb a : Nat)) := by
  rw [h.cell (256 + a) (by omega)]; unfold fin; rw [if_neg (by omega), if_pos (by omega), show 256 + a - 256 = a by omega]
theorem IsTab.mix {w : World} {g : Nat} (h : IsTab w g) (r a : Nat) (hr : r < 4) (ha : a < 256) : w.cell? ⟨g, 512 + r * 256 + a, none⟩ = some (.int .u32 (tw mixM r (sbox a) : Nat)) := by
  rw [h.cell _ (by omega)]; unfold fin; rw [if_neg (by omega), if_neg (by omega), if_pos (by omega), show (512 + r * 256 + a - 512) / 256 = r by omega, show (512 + r * 256 + a) % 256 = a by omega]
theorem IsTab.unmix {w : World} {g : Nat} (h : IsTab w g) (r a : Nat) (hr : r < 4) (ha : a < 256) : w.cell? ⟨g, 1536 + r * 256 + a, none⟩ = some (.int .u32 (tw unM r a : Nat)) := by
  rw [h.cell _ (by omega)]; unfold fin; rw [if_neg (by omega), if_neg (by omega), if_neg (by omega), show (1536 + r * 256 + a - 1536) / 256 = r by omega, show (1536 + r * 256 + a) % 256 = a by omega]

theorem new_nil (w : World) : Calls Tryd.prog 38 #[.pointer none] w fun e w' => e = .returned (.pointer none) ∧ w' = w := by
  go_enter Tryd.func38, Tryd.ntmps38
  go_wp2
  go_ret
  exact ⟨rfl, rfl⟩
set_option maxRecDepth 100000 in
set_option maxHeartbeats 1600000 in
theorem new_core (gb : Nat) (T : Nat → List Value) (w : World) (hz : ∀ w, (zeroValue 87).run Tryd.prog w = .ok (.agg (T 0).toArray) w)
    (cP : Hid (∀ (a : Nat) w', a < 256 → Below w.heap.size w w' → w'.heap[w.heap.size]? = some (.cells (T a).toArray 87 (0, 0)) → Calls Tryd.prog 60 #[.pointer (some ⟨w.heap.size, 0, none⟩), .int .u8 (a : Nat), .pointer (some ⟨gb, 0, none⟩)] w' fun e w'' => e = .returned (.tuple #[]) ∧ w''.heap[w.heap.size]? = some (.cells (T (a + 1)).toArray 87 (0, 0)) ∧ Below w.heap.size w' w'')) :
    Calls Tryd.prog 38 #[.pointer (some ⟨gb, 0, none⟩)] w fun e w' => e = .returned (.pointer (some ⟨w.heap.size, 0, none⟩)) ∧ w'.heap[w.heap.size]? = some (.cells (T 256).toArray 87 (0, 0)) ∧ Below w.heap.size w w' := by
  obtain ⟨Z, hZ⟩ : ∃ Z, Z = (T 0).toArray := ⟨_, rfl⟩
  rw [← hZ] at hz
  have HZ := hide hZ
  clear hZ
  go_enter Tryd.func38, Tryd.ntmps38
  go_wp2
  clear hz
  go_loopw [9] (fun i wr => ∃ a : Nat, a ≤ 256 ∧ i = .int .i64 a ∧ Hid (Below w.heap.size w wr ∧ wr.heap[w.heap.size]? = some (.cells (T a).toArray 87 (0, 0)))) (fun i _ => 256 - (intOf i).toNat)
  case atStart =>
    refine ⟨0, by omega, rfl, below_alloc (Below.refl _ _) _, ?_⟩
    rw [← HZ.out]; exact heap_alloc_new _ _
  case round =>
    obtain ⟨a, ha, rfl, HR⟩ := hrel
    by_cases hlt : a < 256
    · have K1 := hide (cP.out a wr hlt HR.out.1 HR.out.2)
      have HW : IntKind.u8.wrap (a : Int) = a := by rw [IntKind.wrap_u8]; omega
      go_wp2_with fail
      try rw [HW]
      refine (K1.out).mono ?_
      rintro e w9 ⟨rfl, h9, b9⟩
      have H9 := hide h9
      have B9 := hide b9
      clear h9 b9
      go_wp2
      go_roundw
      case rel => exact ⟨a + 1, by omega, by go_num, HR.out.1.trans B9.out, H9.out⟩
      case measure => simp [intOf]; omega
    · obtain rfl : a = 256 := by omega
      go_wp2
      go_ret
      exact ⟨rfl, HR.out.2, HR.out.1⟩
theorem new_any (gb : Nat) (w : World) (hb : IsBoxes w gb) (hl : Laid w) : Calls Tryd.prog 38 #[.pointer (some ⟨gb, 0, none⟩)] w fun e w' => e = .returned (.pointer (some ⟨w.heap.size, 0, none⟩)) ∧ w'.heap[w.heap.size]? = some (.cells (tl0 fin zer 256).toArray 87 (0, 0)) ∧ Below w.heap.size w w' :=
  new_core gb (tl0 fin zer) w (fun w => by show _ = Result.ok (Value.agg (tl0 fin zer 0).toArray) w; rw [tl0_zero]; exact zero_tabs w) fun a w' ha hb' hg => tput_any w.heap.size gb a w' ha (hl.later hb') hl.size (hb.later hb') hg
end Go.Proofs.YtlkihbmkekadeaaDoor
