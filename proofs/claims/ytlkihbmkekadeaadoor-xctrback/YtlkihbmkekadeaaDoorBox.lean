/- Own: the contracts of RotateLeft8 and put of layer 2 (no statement is proved here). -/
import Derived.Test.YtlkihbmkekadeaaDoorPower
import Derived.RegionTactic
import Derived.ChangeAlike
import Derived.BigRegion
import Derived.Laws.Rows
namespace Go.Proofs.YtlkihbmkekadeaaDoor
open Go.ChangeShapes Go.WideShapes Go.ChangeAt Go.RowKit
set_option maxRecDepth 20000

theorem or_u8 (a b : Nat) (ha : a < 256) (hb : b < 256) : bits .or .u8 (a : Int) (b : Int) = ((a ||| b : Nat) : Int) := (bits_nat .u8 8 (by decide) wraps_u8 _ _ ha hb).2
/-- A byte, turned to the left. -/
def rot (x k : Nat) : Nat := (x * 2 ^ k % 256) ||| (x / 2 ^ (8 - k))
theorem rot_lt (x k : Nat) (hx : x < 256) : rot x k < 256 := Nat.or_lt_two_pow (n := 8) (Nat.mod_lt _ (by decide)) (Nat.lt_of_le_of_lt (Nat.div_le_self _ _) hx)
set_option maxHeartbeats 400000 in
theorem rot_1 (x : Nat) (hx : x < 256) (w : World) :
    Calls Tryd.prog 76 #[.int .u8 x, .int .i64 1] w fun e w' => e = .returned (.int .u8 (rot x 1 : Nat)) ∧ w' = w := by
  have hb : bits .and .u64 1 7 = 1 := by decide
  have e1 : Hid (bits .or .u8 ((x : Int) * 2 % 256) ((x : Int) / 128) = ((rot x 1 : Nat) : Int)) := by
    have h1 : (x : Int) * 2 % 256 = ((x * 2 ^ 1 % 256 : Nat) : Int) := by omega
    have h2 : (x : Int) / 128 = ((x / 2 ^ (8 - 1) : Nat) : Int) := by omega
    rw [h1, h2]
    exact or_u8 _ _ (Nat.mod_lt _ (by decide)) (Nat.lt_of_le_of_lt (Nat.div_le_self _ _) hx)
  go_enter Tryd.func76, Tryd.ntmps76
  go_wp2
  go_ret
  exact ⟨ret_int e1.out, rfl⟩
set_option maxHeartbeats 400000 in
theorem rot_2 (x : Nat) (hx : x < 256) (w : World) :
    Calls Tryd.prog 76 #[.int .u8 x, .int .i64 2] w fun e w' => e = .returned (.int .u8 (rot x 2 : Nat)) ∧ w' = w := by
  have hb : bits .and .u64 2 7 = 2 := by decide
  have e1 : Hid (bits .or .u8 ((x : Int) * 4 % 256) ((x : Int) / 64) = ((rot x 2 : Nat) : Int)) := by
    have h1 : (x : Int) * 4 % 256 = ((x * 2 ^ 2 % 256 : Nat) : Int) := by omega
    have h2 : (x : Int) / 64 = ((x / 2 ^ (8 - 2) : Nat) : Int) := by omega
    rw [h1, h2]
    exact or_u8 _ _ (Nat.mod_lt _ (by decide)) (Nat.lt_of_le_of_lt (Nat.div_le_self _ _) hx)
  go_enter Tryd.func76, Tryd.ntmps76
  go_wp2
  go_ret
  exact ⟨ret_int e1.out, rfl⟩
set_option maxHeartbeats 400000 in
theorem rot_3 (x : Nat) (hx : x < 256) (w : World) :
    Calls Tryd.prog 76 #[.int .u8 x, .int .i64 3] w fun e w' => e = .returned (.int .u8 (rot x 3 : Nat)) ∧ w' = w := by
  have hb : bits .and .u64 3 7 = 3 := by decide
  have e1 : Hid (bits .or .u8 ((x : Int) * 8 % 256) ((x : Int) / 32) = ((rot x 3 : Nat) : Int)) := by
    have h1 : (x : Int) * 8 % 256 = ((x * 2 ^ 3 % 256 : Nat) : Int) := by omega
    have h2 : (x : Int) / 32 = ((x / 2 ^ (8 - 3) : Nat) : Int) := by omega
    rw [h1, h2]
    exact or_u8 _ _ (Nat.mod_lt _ (by decide)) (Nat.lt_of_le_of_lt (Nat.div_le_self _ _) hx)
  go_enter Tryd.func76, Tryd.ntmps76
  go_wp2
  go_ret
  exact ⟨ret_int e1.out, rfl⟩
set_option maxHeartbeats 400000 in
theorem rot_4 (x : Nat) (hx : x < 256) (w : World) :
    Calls Tryd.prog 76 #[.int .u8 x, .int .i64 4] w fun e w' => e = .returned (.int .u8 (rot x 4 : Nat)) ∧ w' = w := by
  have hb : bits .and .u64 4 7 = 4 := by decide
  have e1 : Hid (bits .or .u8 ((x : Int) * 16 % 256) ((x : Int) / 16) = ((rot x 4 : Nat) : Int)) := by
    have h1 : (x : Int) * 16 % 256 = ((x * 2 ^ 4 % 256 : Nat) : Int) := by omega
    have h2 : (x : Int) / 16 = ((x / 2 ^ (8 - 4) : Nat) : Int) := by omega
    rw [h1, h2]
    exact or_u8 _ _ (Nat.mod_lt _ (by decide)) (Nat.lt_of_le_of_lt (Nat.div_le_self _ _) hx)
  go_enter Tryd.func76, Tryd.ntmps76
  go_wp2
  go_ret
  exact ⟨ret_int e1.out, rfl⟩
/-- The box of a byte whose inverse is x. -/
def boxOf (x : Nat) : Nat := (((x ^^^ 99) ^^^ rot x 1) ^^^ rot x 2) ^^^ rot x 3 ^^^ rot x 4
def boxTo (x : Nat) : Nat → Nat
  | 0 => x ^^^ 99
  | k + 1 => boxTo x k ^^^ rot x (k + 1)
theorem boxTo_lt (x : Nat) (hx : x < 256) : ∀ k, boxTo x k < 256
  | 0 => xor_lt _ _ hx (by decide)
  | k + 1 => xor_lt _ _ (boxTo_lt x hx k) (rot_lt x _ hx)
theorem rot_any (x k : Nat) (hx : x < 256) (hk : k < 4) (w : World) :
    Calls Tryd.prog 76 #[.int .u8 x, .int .i64 ((k : Int) + 1)] w fun e w' => e = .returned (.int .u8 (rot x (k + 1) : Nat)) ∧ w' = w := by
  match k, hk with
  | 0, _ => exact rot_1 x hx w
  | 1, _ => exact rot_2 x hx w
  | 2, _ => exact rot_3 x hx w
  | 3, _ => exact rot_4 x hx w

theorem cell_set_row (w : World) (g i : Nat) (cs : List Value) (t : TypeId) (v : Value) (hg : w.heap[g]? = some (.cells cs.toArray t (0, 0))) :
    (w.setCell ⟨g, i, none⟩ v).heap[g]? = some (.cells (cs.set i v).toArray t (0, 0)) := by
  rw [heap_setCell_same w _ _ _ _ _ hg, List.setIfInBounds_toArray]

set_option maxHeartbeats 1600000 in
theorem put_any (g : Nat) (cs : List Value) (a x : Nat) (ha : a < 256) (hx : x < 256) (w : World) (hg : w.heap[g]? = some (.cells cs.toArray 99 (0, 0))) (hl : cs.length = 512) :
    Calls Tryd.prog 61 #[.pointer (some ⟨g, 0, none⟩), .int .u8 a, .int .u8 x] w fun e w' => e = .returned (.tuple #[]) ∧ w'.heap[g]? = some (.cells ((cs.set a (.int .u8 (boxTo x 4 : Nat))).set (256 + boxTo x 4) (.int .u8 a)).toArray 99 (0, 0)) ∧ Below g w w' := by
  have h99 : Hid (bits .xor .u8 (x : Int) 99 = ((boxTo x 0 : Nat) : Int)) := xor_u8 x 99 hx (by decide)
  have HG := hide hg
  clear hg
  go_enter Tryd.func61, Tryd.ntmps61
  go_wp2
  go_loop [6, 10] (fun s i => ∃ k : Nat, k ≤ 4 ∧ i = .int .i64 k ∧ s = .int .u8 (boxTo x k : Nat)) (fun _ i => 4 - (intOf i).toNat)
  case atStart => exact ⟨0, by omega, rfl, by rw [h99.out]⟩
  case round =>
    obtain ⟨k, hk, rfl, rfl⟩ := hrel
    by_cases hlt : k < 4
    · have hxr : Hid (bits .xor .u8 ((boxTo x k : Nat) : Int) ((rot x (k + 1) : Nat) : Int) = ((boxTo x (k + 1) : Nat) : Int)) := xor_u8 _ _ (boxTo_lt x hx k) (rot_lt x _ hx)
      go_wp2_with fail
      refine (rot_any x k hx hlt _).mono ?_
      rintro e w' ⟨rfl, rfl⟩
      go_wp2
      go_round
      case rel => exact ⟨k + 1, by omega, by go_num, by rw [hxr.out]⟩
      case measure => simp [intOf]; omega
    · obtain rfl : k = 4 := by omega
      have hB0 := boxTo_lt x hx 4
      obtain ⟨B, hB⟩ : ∃ B, B = boxTo x 4 := ⟨_, rfl⟩
      rw [← hB] at hB0 ⊢
      have HB := hide hB
      clear hB
      have hg := HG.out
      obtain ⟨v1, hv1⟩ : ∃ v, cs[a]? = some v := ⟨_, List.getElem?_eq_getElem (by omega)⟩
      obtain ⟨v2, hv2⟩ : ∃ v, cs[256 + B]? = some v := ⟨_, List.getElem?_eq_getElem (by omega)⟩
      have c1 : w.cell? ⟨g, a, none⟩ = some v1 := by rw [cell_of_row w _ _ _ _ _ hg]; simpa using hv1
      have f1 : w.frozen? ⟨g, a, none⟩ = false := frozen_of_row w _ _ _ _ hg
      have c2 : ∀ u, (w.setCell ⟨g, a, none⟩ u).cell? ⟨g, 256 + B, none⟩ = some v2 := fun u => by
        rw [cell_of_row _ _ _ _ _ _ (cell_set_row w g a cs _ u hg)]
        simp [hv2, show a ≠ 256 + B by omega]
      have f2 : ∀ u, (w.setCell ⟨g, a, none⟩ u).frozen? ⟨g, 256 + B, none⟩ = false := fun u => frozen_of_row _ _ _ _ _ (cell_set_row w g a cs _ u hg)
      have i1 : (a : Int) < 256 := by omega
      have i2 : (B : Int) < 256 := by omega
      clear hg hv1 hv2
      go_wp2
      go_region
      all_goals go_wp2
      all_goals go_end0
      all_goals (
        rw [← HB.out]
        refine ⟨rfl, ?_, ?_⟩
        · exact cell_set_row _ _ _ _ _ _ (cell_set_row w g a cs _ _ HG.out)
        · exact (((Below.refl g w).setCell (Nat.le_refl _) _).setCell (Nat.le_refl _) _).drew)
theorem to_any (g : Nat) (a : Nat) (x : Int) (ha : a < 256) (w : World) (hc : w.cell? ⟨g, a, none⟩ = some (.int .u8 x)) :
    Calls Tryd.prog 74 #[.pointer (some ⟨g, 0, none⟩), .int .u8 a] w fun e w' => e = .returned (.int .u8 x) ∧ w' = w := by
  have i1 : (a : Int) < 256 := by omega
  go_enter Tryd.func74, Tryd.ntmps74
  go_wp2
  go_ret
  exact ⟨rfl, rfl⟩
theorem back_any (g : Nat) (a : Nat) (x : Int) (ha : a < 256) (w : World) (hc : w.cell? ⟨g, 256 + a, none⟩ = some (.int .u8 x)) :
    Calls Tryd.prog 75 #[.pointer (some ⟨g, 0, none⟩), .int .u8 a] w fun e w' => e = .returned (.int .u8 x) ∧ w' = w := by
  have i1 : (a : Int) < 256 := by omega
  go_enter Tryd.func75, Tryd.ntmps75
  go_wp2
  go_ret
  exact ⟨rfl, rfl⟩
theorem to_nil (a : Int) (w : World) : Calls Tryd.prog 74 #[.pointer none, .int .u8 a] w fun e w' => e = .returned (.int .u8 0) ∧ w' = w := by
  go_enter Tryd.func74, Tryd.ntmps74
  go_wp2
  go_ret
  exact ⟨rfl, rfl⟩
theorem back_nil (a : Int) (w : World) : Calls Tryd.prog 75 #[.pointer none, .int .u8 a] w fun e w' => e = .returned (.int .u8 0) ∧ w' = w := by
  go_enter Tryd.func75, Tryd.ntmps75
  go_wp2
  go_ret
  exact ⟨rfl, rfl⟩
end Go.Proofs.YtlkihbmkekadeaaDoor
