/- Own: the contract of Make of layer 2 (no statement is proved here). -/
import Derived.Test.YtlkihbmkekadeaaDoorTab
namespace Go.Proofs.YtlkihbmkekadeaaDoor
open Go.ChangeShapes Go.WideShapes Go.ChangeAt Go.RowKit
set_option maxRecDepth 20000

/-- The cells of a table. -/
def tabV (l : List Nat) : List Value := l.map fun (n : Nat) => Value.int .u8 (n : Int)

theorem tabV_len (l : List Nat) : (tabV l).length = l.length := by unfold tabV; rw [List.length_map]
theorem tabV_put (l : List Nat) (a x : Nat) : tabV (putN l a x) = ((tabV l).set a (.int .u8 (boxTo x 4 : Nat))).set (256 + boxTo x 4) (.int .u8 a) := by
  unfold tabV putN; rw [List.map_set, List.map_set]
theorem tabV_get (l : List Nat) (i n : Nat) (h : l[i]? = some n) : (tabV l)[i]? = some (.int .u8 n) := by
  unfold tabV; rw [List.getElem?_map, h]; rfl
/-- The noughts of new boxes. -/
def noughts : Array Value := (tabV (List.replicate 512 0)).toArray
theorem zero_boxes (w : World) : (zeroValue 99).run Tryd.prog w = .ok (.agg noughts) w := by kernel_rfl
theorem put_first (g : Nat) (w : World) (hg : w.heap[g]? = some (.cells noughts 99 (0, 0))) :
    Calls Tryd.prog 61 #[.pointer (some ⟨g, 0, none⟩), .int .u8 0, .int .u8 0] w fun e w' => e = .returned (.tuple #[]) ∧ w'.heap[g]? = some (.cells (tabV (ntab 0)).toArray 99 (0, 0)) ∧ Below g w w' := by
  have := put_any g (tabV (List.replicate 512 0)) 0 0 (by decide) (by decide) w hg (by rw [tabV_len, List.length_replicate])
  rw [← tabV_put] at this
  exact this
theorem put_next (g k : Nat) (w : World) (hg : w.heap[g]? = some (.cells (tabV (ntab k)).toArray 99 (0, 0))) :
    Calls Tryd.prog 61 #[.pointer (some ⟨g, 0, none⟩), .int .u8 (el k : Nat), .int .u8 (il k : Nat)] w fun e w' => e = .returned (.tuple #[]) ∧ w'.heap[g]? = some (.cells (tabV (ntab (k + 1))).toArray 99 (0, 0)) ∧ Below g w w' := by
  have := put_any g (tabV (ntab k)) (el k) (il k) (el_lt k) (il_lt k) w hg (by rw [tabV_len, ntab_len])
  rw [← tabV_put] at this
  exact this
theorem times_el (k : Nat) (w : World) : Calls Tryd.prog 63 #[.int .u8 (el k : Nat), .int .u8 3] w fun e w' => e = .returned (.int .u8 (el (k + 1) : Nat)) ∧ w' = w := times_any (el k) 3 (el_lt k) (by decide) w
theorem times_il (k : Nat) (w : World) : Calls Tryd.prog 63 #[.int .u8 (il k : Nat), .int .u8 (third : Nat)] w fun e w' => e = .returned (.int .u8 (il (k + 1) : Nat)) ∧ w' = w := times_any (il k) third (il_lt k) third_lt w
theorem inv_third (w : World) : Calls Tryd.prog 62 #[.int .u8 3] w fun e w' => e = .returned (.int .u8 (third : Nat)) ∧ w' = w := inverse_any 3 (by decide) w

/-- What a world holds at g: the boxes. -/
def IsBoxes (w : World) (g : Nat) : Prop := g < w.heap.size ∧ ∀ (j : Nat) (v : Value), (tabV (ntab 255))[j]? = some v → w.cell? ⟨g, j, none⟩ = some v
set_option maxHeartbeats 800000 in
set_option maxRecDepth 100000 in
theorem make_any (w : World) : Calls Tryd.prog 39 #[] w fun e w' => e = .returned (.pointer (some ⟨w.heap.size, 0, none⟩)) ∧ w'.heap[w.heap.size]? = some (.cells (tabV (ntab 255)).toArray 99 (0, 0)) ∧ Below w.heap.size w w' := by
  have hz := zero_boxes
  have h0 : (w.alloc (.cells noughts 99)).heap[w.heap.size]? = some (.cells noughts 99 (0, 0)) := heap_alloc_new _ _
  have H0 := hide h0
  clear h0
  have hb0 : Below w.heap.size w (w.alloc (.cells noughts 99)) := (Below.refl _ _).alloc (Nat.le_refl _) _
  go_enter Tryd.func39, Tryd.ntmps39
  go_wp2_with fail
  refine (put_first _ _ H0.out).mono ?_
  rintro e w1 ⟨rfl, hg1, b1⟩
  have G1 := hide hg1
  have b2 := hb0.trans b1
  clear hg1 b1 hb0 H0 hz
  go_wp2_with fail
  refine (inv_third _).mono ?_
  rintro e w2 ⟨rfl, rfl⟩
  go_wp2_with fail
  go_loopw [3, 4, 10] (fun x y i wr => ∃ k : Nat, k ≤ 255 ∧ i = .int .i64 k ∧ x = .int .u8 (el k : Nat) ∧ y = .int .u8 (il k : Nat) ∧ Hid (wr.heap[w.heap.size]? = some (.cells (tabV (ntab k)).toArray 99 (0, 0))) ∧ Below w.heap.size w wr) (fun _ _ i _ => 255 - (intOf i).toNat)
  case atStart => exact ⟨0, by omega, rfl, rfl, rfl, G1, b2⟩
  case round =>
    rename_i wr
    obtain ⟨k, hk, rfl, rfl, rfl, hg, hbel⟩ := hrel
    clear G1 b2
    by_cases hlt : k < 255
    · go_wp2_with fail
      refine (put_next _ k _ hg.out).mono ?_
      rintro e w3 ⟨rfl, hg3, b3⟩
      have G3 := hide hg3
      have b4 := hbel.trans b3
      clear hg3 b3 hg hbel
      go_wp2_with fail
      refine (times_el k _).mono ?_
      rintro e w4 ⟨rfl, rfl⟩
      go_wp2_with fail
      refine (times_il k _).mono ?_
      rintro e w5 ⟨rfl, rfl⟩
      go_wp2
      go_roundw
      case rel => exact ⟨k + 1, by omega, by go_num, rfl, rfl, G3, b4⟩
      case measure => simp [intOf]; omega
    · obtain rfl : k = 255 := by omega
      go_wp2
      go_ret
      exact ⟨rfl, hg.out, hbel⟩
theorem boxes_to {w : World} {g : Nat} (h : IsBoxes w g) (a : Nat) (ha : a < 256) : w.cell? ⟨g, a, none⟩ = some (.int .u8 (sbox a : Nat)) := by
  exact h.2 _ _ (tabV_get _ _ _ (tab_to a ha))
theorem boxes_back {w : World} {g : Nat} (h : IsBoxes w g) (a : Nat) (ha : a < 256) : w.cell? ⟨g, 256 + a, none⟩ = some (.int .u8 (isb a : Nat)) := by
  exact h.2 _ _ (tabV_get _ _ _ (tab_back a ha))
theorem IsBoxes.later {w w' : World} {g : Nat} (h : IsBoxes w g) (hb : Below w.heap.size w w') : IsBoxes w' g :=
  ⟨Nat.lt_of_lt_of_le h.1 hb.size, fun j v hj => (hb.cell h.1).trans (h.2 j v hj)⟩
theorem to_box (g : Nat) (a : Nat) (ha : a < 256) (w : World) (h : IsBoxes w g) : Calls Tryd.prog 74 #[.pointer (some ⟨g, 0, none⟩), .int .u8 a] w fun e w' => e = .returned (.int .u8 (sbox a : Nat)) ∧ w' = w := to_any g a _ ha w (boxes_to h a ha)
theorem back_box (g : Nat) (a : Nat) (ha : a < 256) (w : World) (h : IsBoxes w g) : Calls Tryd.prog 75 #[.pointer (some ⟨g, 0, none⟩), .int .u8 a] w fun e w' => e = .returned (.int .u8 (isb a : Nat)) ∧ w' = w := back_any g a _ ha w (boxes_back h a ha)

end Go.Proofs.YtlkihbmkekadeaaDoor
