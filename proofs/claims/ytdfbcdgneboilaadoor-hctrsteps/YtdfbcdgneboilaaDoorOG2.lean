/- Own: the contracts of RotateLeft8 and put of layer 2; the tables that Make lays, as plain lists; rounds of blocks, plain mathematics (no Go here, no statement is proved here).; the contracts of teller, Word and Long of layer 1; the contracts of PutWord and PutLong of layer 1; arrays of bytes held against each other; the contract of Make of layer 2; arrays of bytes, told by functions (no statement is proved here). -/
import Derived.Test.YtdfbcdgneboilaaDoorOG1
import Derived.RegionTactic
import Derived.ChangeAlike
import Derived.BigRegion
import Derived.Laws.Rows
import Derived.DeepKeys
namespace Go.Proofs.YtdfbcdgneboilaaDoor
open Go.ChangeShapes Go.WideShapes Go.ChangeAt Go.RowKit
set_option maxRecDepth 20000

theorem or_u8 (a b : Nat) (ha : a < 256) (hb : b < 256) : bits .or .u8 (a : Int) (b : Int) = ((a ||| b : Nat) : Int) := (bits_nat .u8 8 (by decide) wraps_u8 _ _ ha hb).2
/-- A byte, turned to the left. -/
def rot (x k : Nat) : Nat := (x * 2 ^ k % 256) ||| (x / 2 ^ (8 - k))
theorem rot_lt (x k : Nat) (hx : x < 256) : rot x k < 256 := Nat.or_lt_two_pow (n := 8) (Nat.mod_lt _ (by decide)) (Nat.lt_of_le_of_lt (Nat.div_le_self _ _) hx)
set_option maxHeartbeats 400000 in
theorem rot_1 (x : Nat) (hx : x < 256) (w : World) :
    Calls Tryd.prog 61 #[.int .u8 x, .int .i64 1] w fun e w' => e = .returned (.int .u8 (rot x 1 : Nat)) ∧ w' = w := by
  have hb : bits .and .u64 1 7 = 1 := by decide
  have e1 : Hid (bits .or .u8 ((x : Int) * 2 % 256) ((x : Int) / 128) = ((rot x 1 : Nat) : Int)) := by
    have h1 : (x : Int) * 2 % 256 = ((x * 2 ^ 1 % 256 : Nat) : Int) := by omega
    have h2 : (x : Int) / 128 = ((x / 2 ^ (8 - 1) : Nat) : Int) := by omega
    rw [h1, h2]
    exact or_u8 _ _ (Nat.mod_lt _ (by decide)) (Nat.lt_of_le_of_lt (Nat.div_le_self _ _) hx)
  go_enter Tryd.func61, Tryd.ntmps61
  go_wp2
  go_ret
  exact ⟨ret_int e1.out, rfl⟩
set_option maxHeartbeats 400000 in
theorem rot_2 (x : Nat) (hx : x < 256) (w : World) :
    Calls Tryd.prog 61 #[.int .u8 x, .int .i64 2] w fun e w' => e = .returned (.int .u8 (rot x 2 : Nat)) ∧ w' = w := by
  have hb : bits .and .u64 2 7 = 2 := by decide
  have e1 : Hid (bits .or .u8 ((x : Int) * 4 % 256) ((x : Int) / 64) = ((rot x 2 : Nat) : Int)) := by
    have h1 : (x : Int) * 4 % 256 = ((x * 2 ^ 2 % 256 : Nat) : Int) := by omega
    have h2 : (x : Int) / 64 = ((x / 2 ^ (8 - 2) : Nat) : Int) := by omega
    rw [h1, h2]
    exact or_u8 _ _ (Nat.mod_lt _ (by decide)) (Nat.lt_of_le_of_lt (Nat.div_le_self _ _) hx)
  go_enter Tryd.func61, Tryd.ntmps61
  go_wp2
  go_ret
  exact ⟨ret_int e1.out, rfl⟩
set_option maxHeartbeats 400000 in
theorem rot_3 (x : Nat) (hx : x < 256) (w : World) :
    Calls Tryd.prog 61 #[.int .u8 x, .int .i64 3] w fun e w' => e = .returned (.int .u8 (rot x 3 : Nat)) ∧ w' = w := by
  have hb : bits .and .u64 3 7 = 3 := by decide
  have e1 : Hid (bits .or .u8 ((x : Int) * 8 % 256) ((x : Int) / 32) = ((rot x 3 : Nat) : Int)) := by
    have h1 : (x : Int) * 8 % 256 = ((x * 2 ^ 3 % 256 : Nat) : Int) := by omega
    have h2 : (x : Int) / 32 = ((x / 2 ^ (8 - 3) : Nat) : Int) := by omega
    rw [h1, h2]
    exact or_u8 _ _ (Nat.mod_lt _ (by decide)) (Nat.lt_of_le_of_lt (Nat.div_le_self _ _) hx)
  go_enter Tryd.func61, Tryd.ntmps61
  go_wp2
  go_ret
  exact ⟨ret_int e1.out, rfl⟩
set_option maxHeartbeats 400000 in
theorem rot_4 (x : Nat) (hx : x < 256) (w : World) :
    Calls Tryd.prog 61 #[.int .u8 x, .int .i64 4] w fun e w' => e = .returned (.int .u8 (rot x 4 : Nat)) ∧ w' = w := by
  have hb : bits .and .u64 4 7 = 4 := by decide
  have e1 : Hid (bits .or .u8 ((x : Int) * 16 % 256) ((x : Int) / 16) = ((rot x 4 : Nat) : Int)) := by
    have h1 : (x : Int) * 16 % 256 = ((x * 2 ^ 4 % 256 : Nat) : Int) := by omega
    have h2 : (x : Int) / 16 = ((x / 2 ^ (8 - 4) : Nat) : Int) := by omega
    rw [h1, h2]
    exact or_u8 _ _ (Nat.mod_lt _ (by decide)) (Nat.lt_of_le_of_lt (Nat.div_le_self _ _) hx)
  go_enter Tryd.func61, Tryd.ntmps61
  go_wp2
  go_ret
  exact ⟨ret_int e1.out, rfl⟩
/-- The box of a byte whose inverse is x. -/
def boxOf (x : Nat) : Nat := (((x ^^^ 99) ^^^ rot x 1) ^^^ rot x 2) ^^^ rot x 3 ^^^ rot x 4
def boxTo (x : Nat) : Nat → Nat
  | 0 => x ^^^ 99
  | k + 1 => boxTo x k ^^^ rot x (k + 1)
theorem boxTo_lt (x : Nat) (hx : x < 256) : ∀ k, boxTo x k < 256
  | 0 => xor_lt _ _ hx (by decide)
  | k + 1 => xor_lt _ _ (boxTo_lt x hx k) (rot_lt x _ hx)
theorem rot_any (x k : Nat) (hx : x < 256) (hk : k < 4) (w : World) :
    Calls Tryd.prog 61 #[.int .u8 x, .int .i64 ((k : Int) + 1)] w fun e w' => e = .returned (.int .u8 (rot x (k + 1) : Nat)) ∧ w' = w := by
  match k, hk with
  | 0, _ => exact rot_1 x hx w
  | 1, _ => exact rot_2 x hx w
  | 2, _ => exact rot_3 x hx w
  | 3, _ => exact rot_4 x hx w

theorem cell_set_row (w : World) (g i : Nat) (cs : List Value) (t : TypeId) (v : Value) (hg : w.heap[g]? = some (.cells cs.toArray t (0, 0))) :
    (w.setCell ⟨g, i, none⟩ v).heap[g]? = some (.cells (cs.set i v).toArray t (0, 0)) := by
  rw [heap_setCell_same w _ _ _ _ _ hg, List.setIfInBounds_toArray]

set_option maxHeartbeats 1600000 in
theorem put_any (g : Nat) (cs : List Value) (a x : Nat) (ha : a < 256) (hx : x < 256) (w : World) (hg : w.heap[g]? = some (.cells cs.toArray 80 (0, 0))) (hl : cs.length = 512) :
    Calls Tryd.prog 41 #[.pointer (some ⟨g, 0, none⟩), .int .u8 a, .int .u8 x] w fun e w' => e = .returned (.tuple #[]) ∧ w'.heap[g]? = some (.cells ((cs.set a (.int .u8 (boxTo x 4 : Nat))).set (256 + boxTo x 4) (.int .u8 a)).toArray 80 (0, 0)) ∧ Below g w w' := by
  have h99 : Hid (bits .xor .u8 (x : Int) 99 = ((boxTo x 0 : Nat) : Int)) := xor_u8 x 99 hx (by decide)
  have HG := hide hg
  clear hg
  go_enter Tryd.func41, Tryd.ntmps41
  go_wp2
  go_loop [6, 10] (fun s i => ∃ k : Nat, k ≤ 4 ∧ i = .int .i64 k ∧ s = .int .u8 (boxTo x k : Nat)) (fun _ i => 4 - (intOf i).toNat)
  case atStart => exact ⟨0, by omega, rfl, by rw [h99.out]⟩
  case round =>
    obtain ⟨k, hk, rfl, rfl⟩ := hrel
    by_cases hlt : k < 4
    · have hxr : Hid (bits .xor .u8 ((boxTo x k : Nat) : Int) ((rot x (k + 1) : Nat) : Int) = ((boxTo x (k + 1) : Nat) : Int)) := xor_u8 _ _ (boxTo_lt x hx k) (rot_lt x _ hx)
      go_wp2_with fail
      refine (rot_any x k hx hlt _).mono ?_
      rintro e w' ⟨rfl, rfl⟩
      go_wp2
      go_round
      case rel => exact ⟨k + 1, by omega, by go_num, by rw [hxr.out]⟩
      case measure => simp [intOf]; omega
    · obtain rfl : k = 4 := by omega
      have hB0 := boxTo_lt x hx 4
      obtain ⟨B, hB⟩ : ∃ B, B = boxTo x 4 := ⟨_, rfl⟩
      rw [← hB] at hB0 ⊢
      have HB := hide hB
      clear hB
      have hg := HG.out
      obtain ⟨v1, hv1⟩ : ∃ v, cs[a]? = some v := ⟨_, List.getElem?_eq_getElem (by omega)⟩
      obtain ⟨v2, hv2⟩ : ∃ v, cs[256 + B]? = some v := ⟨_, List.getElem?_eq_getElem (by omega)⟩
      have c1 : w.cell? ⟨g, a, none⟩ = some v1 := by rw [cell_of_row w _ _ _ _ _ hg]; simpa using hv1
      have f1 : w.frozen? ⟨g, a, none⟩ = false := frozen_of_row w _ _ _ _ hg
      have c2 : ∀ u, (w.setCell ⟨g, a, none⟩ u).cell? ⟨g, 256 + B, none⟩ = some v2 := fun u => by
        rw [cell_of_row _ _ _ _ _ _ (cell_set_row w g a cs _ u hg)]
        simp [hv2, show a ≠ 256 + B by omega]
      have f2 : ∀ u, (w.setCell ⟨g, a, none⟩ u).frozen? ⟨g, 256 + B, none⟩ = false := fun u => frozen_of_row _ _ _ _ _ (cell_set_row w g a cs _ u hg)
      have i1 : (a : Int) < 256 := by omega
      have i2 : (B : Int) < 256 := by omega
      clear hg hv1 hv2
      go_wp2
      go_region
      all_goals go_wp2
      all_goals go_end0
      all_goals (
        rw [← HB.out]
        refine ⟨rfl, ?_, ?_⟩
        · exact cell_set_row _ _ _ _ _ _ (cell_set_row w g a cs _ _ HG.out)
        · exact (((Below.refl g w).setCell (Nat.le_refl _) _).setCell (Nat.le_refl _) _).drew)
theorem to_any (g : Nat) (a : Nat) (x : Int) (ha : a < 256) (w : World) (hc : w.cell? ⟨g, a, none⟩ = some (.int .u8 x)) :
    Calls Tryd.prog 59 #[.pointer (some ⟨g, 0, none⟩), .int .u8 a] w fun e w' => e = .returned (.int .u8 x) ∧ w' = w := by
  have i1 : (a : Int) < 256 := by omega
  go_enter Tryd.func59, Tryd.ntmps59
  go_wp2
  go_ret
  exact ⟨rfl, rfl⟩
theorem back_any (g : Nat) (a : Nat) (x : Int) (ha : a < 256) (w : World) (hc : w.cell? ⟨g, 256 + a, none⟩ = some (.int .u8 x)) :
    Calls Tryd.prog 60 #[.pointer (some ⟨g, 0, none⟩), .int .u8 a] w fun e w' => e = .returned (.int .u8 x) ∧ w' = w := by
  have i1 : (a : Int) < 256 := by omega
  go_enter Tryd.func60, Tryd.ntmps60
  go_wp2
  go_ret
  exact ⟨rfl, rfl⟩
theorem to_nil (a : Int) (w : World) : Calls Tryd.prog 59 #[.pointer none, .int .u8 a] w fun e w' => e = .returned (.int .u8 0) ∧ w' = w := by
  go_enter Tryd.func59, Tryd.ntmps59
  go_wp2
  go_ret
  exact ⟨rfl, rfl⟩
theorem back_nil (a : Int) (w : World) : Calls Tryd.prog 60 #[.pointer none, .int .u8 a] w fun e w' => e = .returned (.int .u8 0) ∧ w' = w := by
  go_enter Tryd.func60, Tryd.ntmps60
  go_wp2
  go_ret
  exact ⟨rfl, rfl⟩
end Go.Proofs.YtdfbcdgneboilaaDoor
namespace Go.Proofs.YtdfbcdgneboilaaDoor

/-- The box of a byte. -/
def sbox (a : Nat) : Nat := boxTo (inv a) 4
def putN (l : List Nat) (a x : Nat) : List Nat := (l.set a (boxTo x 4)).set (256 + boxTo x 4) a
def third : Nat := inv 3
def el : Nat → Nat
  | 0 => 1
  | k + 1 => times (el k) 3
def il : Nat → Nat
  | 0 => 1
  | k + 1 => times (il k) third
/-- The table behind k rounds. -/
def ntab : Nat → List Nat
  | 0 => putN (List.replicate 512 0) 0 0
  | k + 1 => putN (ntab k) (el k) (il k)
theorem third_lt : third < 256 := inv_lt 3 (by decide)
theorem el_lt : ∀ k, el k < 256
  | 0 => by decide
  | k + 1 => times_lt _ _ (el_lt k)
theorem il_lt : ∀ k, il k < 256
  | 0 => by decide
  | k + 1 => times_lt _ _ (il_lt k)
theorem putN_len (l : List Nat) (a x : Nat) : (putN l a x).length = l.length := by unfold putN; rw [List.length_set, List.length_set]
theorem ntab_len : ∀ k, (ntab k).length = 512
  | 0 => by rw [ntab, putN_len, List.length_replicate]
  | k + 1 => by rw [ntab, putN_len, ntab_len k]
theorem sbox_lt (a : Nat) (ha : a < 256) : sbox a < 256 := boxTo_lt _ (inv_lt a ha) 4
theorem sbox_zero : boxTo 0 4 = sbox 0 := by rw [sbox, inv_zero]

theorem el_il : ∀ k, times (el k) (il k) = 1
  | 0 => by decide +kernel
  | k + 1 => by
    have h3 : times 3 third = 1 := times_inv 3 (by decide) (by decide)
    have e := el_lt k
    have i := il_lt k
    have t := third_lt
    rw [el, il, times_assoc _ _ _ e (by decide) (times_lt _ _ i), times_comm (il k) third i t, ← times_assoc 3 third (il k) (by decide) t i, h3, one_times _ i, el_il k]
theorem inv_unique (a b : Nat) (ha : a < 256) (hb : b < 256) (h : times a b = 1) : b = inv a := by
  have h0 : a ≠ 0 := by rintro rfl; rw [zero_times] at h; exact absurd h (by decide)
  have h1 := times_inv a ha h0
  have e : times (inv a) (times a b) = b := by
    rw [← times_assoc _ _ _ (inv_lt a ha) ha hb, times_comm _ _ (inv_lt a ha) ha, h1, one_times b hb]
  rw [h, times_one _ (inv_lt a ha)] at e
  exact e.symm
theorem il_inv (k : Nat) : il k = inv (el k) := inv_unique _ _ (el_lt k) (il_lt k) (el_il k)
theorem el_pw : ∀ k, el k = pw 3 k
  | 0 => rfl
  | k + 1 => by rw [el, pw, el_pw k]

/-! All elements but 0 are powers of 3; no two bytes have one box: by tables that are held against the functions. -/
def lg : List Nat := [0, 0, 25, 1, 50, 2, 26, 198, 75, 199, 27, 104, 51, 238, 223, 3, 100, 4, 224, 14, 52, 141, 129, 239, 76, 113, 8, 200, 248, 105, 28, 193,
    125, 194, 29, 181, 249, 185, 39, 106, 77, 228, 166, 114, 154, 201, 9, 120, 101, 47, 138, 5, 33, 15, 225, 36, 18, 240, 130, 69, 53, 147, 218, 142,
    150, 143, 219, 189, 54, 208, 206, 148, 19, 92, 210, 241, 64, 70, 131, 56, 102, 221, 253, 48, 191, 6, 139, 98, 179, 37, 226, 152, 34, 136, 145, 16,
    126, 110, 72, 195, 163, 182, 30, 66, 58, 107, 40, 84, 250, 133, 61, 186, 43, 121, 10, 21, 155, 159, 94, 202, 78, 212, 172, 229, 243, 115, 167, 87,
    175, 88, 168, 80, 244, 234, 214, 116, 79, 174, 233, 213, 231, 230, 173, 232, 44, 215, 117, 122, 235, 22, 11, 245, 89, 203, 95, 176, 156, 169, 81, 160,
    127, 12, 246, 111, 23, 196, 73, 236, 216, 67, 31, 45, 164, 118, 123, 183, 204, 187, 62, 90, 251, 96, 177, 134, 59, 82, 161, 108, 170, 85, 41, 157,
    151, 178, 135, 144, 97, 190, 220, 252, 188, 149, 207, 205, 55, 63, 91, 209, 83, 57, 132, 60, 65, 162, 109, 71, 20, 42, 158, 93, 86, 242, 211, 171,
    68, 17, 146, 217, 35, 32, 46, 137, 180, 124, 184, 38, 119, 153, 227, 165, 103, 74, 237, 222, 197, 49, 254, 24, 13, 99, 140, 128, 192, 247, 112, 7]
theorem lg_right : ∀ j, j < 256 → j ≠ 0 → pl 8 3 (lg.getD j 0) 1 = j ∧ lg.getD j 0 < 255 := by decide +kernel
theorem all_el (j : Nat) (hj : j < 256) (h0 : j ≠ 0) : ∃ i, i < 255 ∧ el i = j := by
  obtain ⟨h1, h2⟩ := lg_right j hj h0
  refine ⟨lg.getD j 0, h2, ?_⟩
  rw [el_pw]
  rw [pl_eq 8 3 _ 1 (by decide) (by decide) (Nat.lt_of_lt_of_le h2 (by decide)), one_times _ (pw_lt 3 (by decide) _)] at h1
  exact h1
def isbL : List Nat := [82, 9, 106, 213, 48, 54, 165, 56, 191, 64, 163, 158, 129, 243, 215, 251, 124, 227, 57, 130, 155, 47, 255, 135, 52, 142, 67, 68, 196, 222, 233, 203,
    84, 123, 148, 50, 166, 194, 35, 61, 238, 76, 149, 11, 66, 250, 195, 78, 8, 46, 161, 102, 40, 217, 36, 178, 118, 91, 162, 73, 109, 139, 209, 37,
    114, 248, 246, 100, 134, 104, 152, 22, 212, 164, 92, 204, 93, 101, 182, 146, 108, 112, 72, 80, 253, 237, 185, 218, 94, 21, 70, 87, 167, 141, 157, 132,
    144, 216, 171, 0, 140, 188, 211, 10, 247, 228, 88, 5, 184, 179, 69, 6, 208, 44, 30, 143, 202, 63, 15, 2, 193, 175, 189, 3, 1, 19, 138, 107,
    58, 145, 17, 65, 79, 103, 220, 234, 151, 242, 207, 206, 240, 180, 230, 115, 150, 172, 116, 34, 231, 173, 53, 133, 226, 249, 55, 232, 28, 117, 223, 110,
    71, 241, 26, 113, 29, 41, 197, 137, 111, 183, 98, 14, 170, 24, 190, 27, 252, 86, 62, 75, 198, 210, 121, 32, 154, 219, 192, 254, 120, 205, 90, 244,
    31, 221, 168, 51, 136, 7, 199, 49, 177, 18, 16, 89, 39, 128, 236, 95, 96, 81, 127, 169, 25, 181, 74, 13, 45, 229, 122, 159, 147, 201, 156, 239,
    160, 224, 59, 77, 174, 42, 245, 176, 200, 235, 187, 60, 131, 83, 153, 97, 23, 43, 4, 126, 186, 119, 214, 38, 225, 105, 20, 99, 85, 33, 12, 125]
/-- The box back. -/
def isb (b : Nat) : Nat := isbL.getD b 0
theorem isb_sbox : ∀ a, a < 256 → isb (sbox a) = a := by decide +kernel
theorem sbox_isb : ∀ b, b < 256 → sbox (isb b) = b ∧ isb b < 256 := by decide +kernel
theorem sbox_inj (a b : Nat) (ha : a < 256) (hb : b < 256) (h : sbox a = sbox b) : a = b := by
  rw [← isb_sbox a ha, ← isb_sbox b hb, h]
theorem sbox_other : ∀ a, a < 256 → sbox a ≠ a ∧ sbox a ≠ 255 - a := by decide +kernel

theorem put_get (l : List Nat) (hl : l.length = 512) (e a : Nat) (he : e < 256) (ha : a < 256) (h : a = e ∨ (l[a]? = some (sbox a) ∧ l[256 + sbox a]? = some a)) :
    (putN l e (inv e))[a]? = some (sbox a) ∧ (putN l e (inv e))[256 + sbox a]? = some a := by
  have e1 : boxTo (inv e) 4 = sbox e := rfl
  have se := sbox_lt e he
  have sa := sbox_lt a ha
  unfold putN
  rw [e1]
  by_cases hae : a = e
  · subst hae
    constructor
    · rw [List.getElem?_set_ne (by omega), List.getElem?_set_self (by omega)]
    · rw [List.getElem?_set_self (by rw [List.length_set]; omega)]
  · obtain ⟨h1, h2⟩ := h.resolve_left hae
    have hne : sbox a ≠ sbox e := fun h => hae (sbox_inj a e ha he h)
    constructor
    · rw [List.getElem?_set_ne (by omega), List.getElem?_set_ne (by omega), h1]
    · rw [List.getElem?_set_ne (by omega), List.getElem?_set_ne (by omega), h2]
theorem ntab_get : ∀ k a, a < 256 → (a = 0 ∨ ∃ i, i < k ∧ el i = a) → (ntab k)[a]? = some (sbox a) ∧ (ntab k)[256 + sbox a]? = some a
  | 0, a, ha, h => by
    have h0 : a = 0 := h.resolve_right (by rintro ⟨i, hi, _⟩; omega)
    rw [ntab]
    have := put_get (List.replicate 512 0) List.length_replicate 0 a (by decide) ha (.inl h0)
    rwa [inv_zero] at this
  | k + 1, a, ha, h => by
    rw [ntab, il_inv]
    refine put_get (ntab k) (ntab_len k) (el k) a (el_lt k) ha ?_
    by_cases hk : a = el k
    · exact .inl hk
    · refine .inr (ntab_get k a ha ?_)
      rcases h with h | ⟨i, hi, he⟩
      · exact .inl h
      · exact .inr ⟨i, by
          have : i ≠ k := by rintro rfl; exact hk he.symm
          omega, he⟩
theorem tab_to (a : Nat) (ha : a < 256) : (ntab 255)[a]? = some (sbox a) := by
  refine (ntab_get 255 a ha ?_).1
  by_cases h : a = 0
  · exact .inl h
  · exact .inr (all_el a ha h)
theorem tab_back (b : Nat) (hb : b < 256) : (ntab 255)[256 + b]? = some (isb b) := by
  obtain ⟨h1, h2⟩ := sbox_isb b hb
  have := (ntab_get 255 (isb b) h2 (by
    by_cases h : isb b = 0
    · exact .inl h
    · exact .inr (all_el _ h2 h))).2
  rwa [h1] at this
end Go.Proofs.YtdfbcdgneboilaaDoor
namespace Go.Proofs.YtdfbcdgneboilaaDoor

def Byt (f : Nat → Nat) : Prop := ∀ i, f i < 256
def mixM (i r : Nat) : Nat := ([2, 3, 1, 1, 1, 2, 3, 1, 1, 1, 2, 3, 3, 1, 1, 2] : List Nat).getD (4 * i + r) 0
def unM (i r : Nat) : Nat := ([14, 11, 13, 9, 9, 14, 11, 13, 13, 9, 14, 11, 11, 13, 9, 14] : List Nat).getD (4 * i + r) 0
theorem mixM_lt (i r : Nat) (hi : i < 4) (hr : r < 4) : mixM i r < 256 := (show ∀ i, i < 4 → ∀ r, r < 4 → mixM i r < 256 by decide) i hi r hr
theorem unM_lt (i r : Nat) (hi : i < 4) (hr : r < 4) : unM i r < 256 := (show ∀ i, i < 4 → ∀ r, r < 4 → unM i r < 256 by decide) i hi r hr
theorem mixM_ne (i r : Nat) (hi : i < 4) (hr : r < 4) : mixM i r ≠ 0 := (show ∀ i, i < 4 → ∀ r, r < 4 → mixM i r ≠ 0 by decide) i hi r hr

/-- A column times a matrix, one row of it. -/
def mcol (M : Nat → Nat → Nat) (a : Nat → Nat) (i : Nat) : Nat := ((times (M i 0) (a 0) ^^^ times (M i 1) (a 1)) ^^^ times (M i 2) (a 2)) ^^^ times (M i 3) (a 3)
theorem mcol_congr (M : Nat → Nat → Nat) {a b : Nat → Nat} (i : Nat) (h : ∀ r, r < 4 → a r = b r) : mcol M a i = mcol M b i := by
  unfold mcol; rw [h 0 (by decide), h 1 (by decide), h 2 (by decide), h 3 (by decide)]
theorem mcol_lt (M : Nat → Nat → Nat) (a : Nat → Nat) (i : Nat) (h : ∀ r, r < 4 → M i r < 256) : mcol M a i < 256 := by
  unfold mcol
  exact xor_lt _ _ (xor_lt _ _ (xor_lt _ _ (times_lt _ _ (h 0 (by decide))) (times_lt _ _ (h 1 (by decide)))) (times_lt _ _ (h 2 (by decide)))) (times_lt _ _ (h 3 (by decide)))
def comp (U M : Nat → Nat → Nat) (i k : Nat) : Nat := ((times (U i 0) (M 0 k) ^^^ times (U i 1) (M 1 k)) ^^^ times (U i 2) (M 2 k)) ^^^ times (U i 3) (M 3 k)
theorem comp_times (U M : Nat → Nat → Nat) (i k x : Nat) (hU : ∀ r, r < 4 → U i r < 256) (hM : ∀ r, r < 4 → M r k < 256) (hx : x < 256) :
    times (comp U M i k) x = ((times (U i 0) (times (M 0 k) x) ^^^ times (U i 1) (times (M 1 k) x)) ^^^ times (U i 2) (times (M 2 k) x)) ^^^ times (U i 3) (times (M 3 k) x) := by
  have t : ∀ r, r < 4 → times (U i r) (M r k) < 256 := fun r hr => times_lt _ _ (hU r hr)
  unfold comp
  rw [times_left _ _ _ (xor_lt _ _ (xor_lt _ _ (t 0 (by decide)) (t 1 (by decide))) (t 2 (by decide))) (t 3 (by decide)), times_left _ _ _ (xor_lt _ _ (t 0 (by decide)) (t 1 (by decide))) (t 2 (by decide)), times_left _ _ _ (t 0 (by decide)) (t 1 (by decide)),
    times_assoc _ _ _ (hU 0 (by decide)) (hM 0 (by decide)) hx, times_assoc _ _ _ (hU 1 (by decide)) (hM 1 (by decide)) hx, times_assoc _ _ _ (hU 2 (by decide)) (hM 2 (by decide)) hx, times_assoc _ _ _ (hU 3 (by decide)) (hM 3 (by decide)) hx]
theorem mcol_mcol (U M : Nat → Nat → Nat) (a : Nat → Nat) (i : Nat) (hU : ∀ r, r < 4 → U i r < 256) (hM : ∀ r k, r < 4 → k < 4 → M r k < 256) (ha : ∀ k, k < 4 → a k < 256) :
    mcol U (mcol M a) i = mcol (comp U M) a i := by
  have c := fun k hk => comp_times U M i k (a k) hU (fun r hr => hM r k hr hk) (ha k hk)
  have l : mcol (comp U M) a i = ((times (comp U M i 0) (a 0) ^^^ times (comp U M i 1) (a 1)) ^^^ times (comp U M i 2) (a 2)) ^^^ times (comp U M i 3) (a 3) := rfl
  rw [l, c 0 (by decide), c 1 (by decide), c 2 (by decide), c 3 (by decide)]
  simp only [mcol, times_right]
  ac_rfl
theorem comp_um : ∀ i, i < 4 → ∀ k, k < 4 → comp unM mixM i k = if i = k then 1 else 0 := by decide +kernel
theorem comp_mu : ∀ i, i < 4 → ∀ k, k < 4 → comp mixM unM i k = if i = k then 1 else 0 := by decide +kernel
theorem mcol_one (M : Nat → Nat → Nat) (a : Nat → Nat) (i : Nat) (hi : i < 4) (h : ∀ k, k < 4 → M i k = if i = k then 1 else 0) (ha : ∀ k, k < 4 → a k < 256) : mcol M a i = a i := by
  unfold mcol
  rw [h 0 (by decide), h 1 (by decide), h 2 (by decide), h 3 (by decide)]
  have z := zero_times
  have o := fun k hk => one_times (a k) (ha k hk)
  match i, hi with
  | 0, _ => simp [z, o 0 (by decide)]
  | 1, _ => simp [z, o 1 (by decide)]
  | 2, _ => simp [z, o 2 (by decide)]
  | 3, _ => simp [z, o 3 (by decide)]
theorem un_mix (a : Nat → Nat) (i : Nat) (hi : i < 4) (ha : ∀ k, k < 4 → a k < 256) : mcol unM (mcol mixM a) i = a i := by
  rw [mcol_mcol unM mixM a i (fun r hr => unM_lt i r hi hr) (fun r k hr hk => mixM_lt r k hr hk) ha]
  exact mcol_one _ a i hi (fun k hk => comp_um i hi k hk) ha
theorem mix_un (a : Nat → Nat) (i : Nat) (hi : i < 4) (ha : ∀ k, k < 4 → a k < 256) : mcol mixM (mcol unM a) i = a i := by
  rw [mcol_mcol mixM unM a i (fun r hr => mixM_lt i r hi hr) (fun r k hr hk => unM_lt r k hr hk) ha]
  exact mcol_one _ a i hi (fun k hk => comp_mu i hi k hk) ha

/-! Places. -/
def shf (c r : Nat) : Nat := 4 * ((c + r) % 4) + r
def shi (i : Nat) : Nat := shf (i / 4) (i % 4)
def shb (i : Nat) : Nat := 4 * ((i / 4 + 4 - i % 4) % 4) + i % 4
theorem shi_shb (i : Nat) (h : i < 16) : shi (shb i) = i := (show ∀ i, i < 16 → shi (shb i) = i by decide) i h
theorem shb_shi (i : Nat) (h : i < 16) : shb (shi i) = i := (show ∀ i, i < 16 → shb (shi i) = i by decide) i h
theorem shi_lt (i : Nat) (h : i < 16) : shi i < 16 := (show ∀ i, i < 16 → shi i < 16 by decide) i h
theorem shb_lt (i : Nat) (h : i < 16) : shb i < 16 := (show ∀ i, i < 16 → shb i < 16 by decide) i h
theorem shf_lt (c r : Nat) (hc : c < 4) (hr : r < 4) : shf c r < 16 := (show ∀ c, c < 4 → ∀ r, r < 4 → shf c r < 16 by decide) c hc r hr
theorem shb_shf (c r : Nat) (hc : c < 4) (hr : r < 4) : shb (shf c r) = 4 * c + r := (show ∀ c, c < 4 → ∀ r, r < 4 → shb (shf c r) = 4 * c + r by decide) c hc r hr
theorem quad (c r : Nat) (hr : r < 4) : (4 * c + r) / 4 = c ∧ (4 * c + r) % 4 = r := by omega

/-! Rounds. -/
def rnd (f k : Nat → Nat) (i : Nat) : Nat := mcol mixM (fun r => sbox (f (shf (i / 4) r))) (i % 4) ^^^ k i
def lst (f k : Nat → Nat) (i : Nat) : Nat := sbox (f (shi i)) ^^^ k i
def unl (f k : Nat → Nat) (i : Nat) : Nat := isb (f (shb i) ^^^ k (shb i))
def umx (f k : Nat → Nat) (i : Nat) : Nat := mcol unM (fun r => f (4 * (i / 4) + r) ^^^ k (4 * (i / 4) + r)) (i % 4)
def unr (f k : Nat → Nat) : Nat → Nat := unl (umx f k) fun _ => 0
theorem xor_twice (a b : Nat) : (a ^^^ b) ^^^ b = a := by rw [Nat.xor_assoc, Nat.xor_self, Nat.xor_zero]
theorem isb_lt (b : Nat) (h : b < 256) : isb b < 256 := (sbox_isb b h).2
theorem rnd_byt {f k : Nat → Nat} (hk : Byt k) : Byt (rnd f k) := fun i => xor_lt _ _ (mcol_lt _ _ _ fun r hr => mixM_lt _ r (Nat.mod_lt _ (by decide)) hr) (hk i)
theorem lst_byt {f k : Nat → Nat} (hf : Byt f) (hk : Byt k) : Byt (lst f k) := fun i => xor_lt _ _ (sbox_lt _ (hf _)) (hk i)
theorem unl_byt {f k : Nat → Nat} (hf : Byt f) (hk : Byt k) : Byt (unl f k) := fun _ => isb_lt _ (xor_lt _ _ (hf _) (hk _))
theorem umx_byt (f k : Nat → Nat) : Byt (umx f k) := fun _ => mcol_lt _ _ _ fun r hr => unM_lt _ r (Nat.mod_lt _ (by decide)) hr
theorem zero_byt : Byt fun _ => 0 := fun _ => Nat.zero_lt_succ _
theorem unr_byt (f k : Nat → Nat) : Byt (unr f k) := unl_byt (umx_byt f k) zero_byt
theorem unl_lst {f k : Nat → Nat} (hf : Byt f) (i : Nat) (hi : i < 16) : unl (lst f k) k i = f i := by
  unfold unl lst; rw [xor_twice, shi_shb i hi, isb_sbox _ (hf i)]
theorem lst_unl {f k : Nat → Nat} (hf : Byt f) (hk : Byt k) (i : Nat) (hi : i < 16) : lst (unl f k) k i = f i := by
  unfold unl lst; rw [(sbox_isb _ (xor_lt _ _ (hf _) (hk _))).1, shb_shi i hi, xor_twice]
theorem unr_rnd {f k : Nat → Nat} (hf : Byt f) (i : Nat) (hi : i < 16) : unr (rnd f k) k i = f i := by
  have e : umx (rnd f k) k (shb i) = sbox (f i) := by
    unfold umx
    rw [mcol_congr unM (b := mcol mixM fun r => sbox (f (shf (shb i / 4) r))) _ fun r hr => by
      obtain ⟨e1, e2⟩ := quad (shb i / 4) r hr
      show (rnd f k) _ ^^^ _ = _
      unfold rnd
      rw [e1, e2, xor_twice]]
    rw [un_mix _ _ (Nat.mod_lt _ (by decide)) fun k _ => sbox_lt _ (hf _)]
    show sbox (f (shi (shb i))) = _
    rw [shi_shb i hi]
  unfold unr unl
  rw [e, Nat.xor_zero, isb_sbox _ (hf i)]
theorem rnd_unr {f k : Nat → Nat} (hf : Byt f) (hk : Byt k) (i : Nat) (hi : i < 16) : rnd (unr f k) k i = f i := by
  have hc : i / 4 < 4 := by omega
  have hr : i % 4 < 4 := Nat.mod_lt _ (by decide)
  have ei : 4 * (i / 4) + i % 4 = i := by omega
  unfold rnd
  rw [mcol_congr mixM (b := mcol unM fun r => f (4 * (i / 4) + r) ^^^ k (4 * (i / 4) + r)) _ fun r hr => by
    obtain ⟨e1, e2⟩ := quad (i / 4) r hr
    show sbox (unr f k (shf (i / 4) r)) = _
    unfold unr unl
    rw [Nat.xor_zero, (sbox_isb _ (umx_byt f k _)).1, shb_shf _ _ hc hr]
    unfold umx
    rw [e1, e2]]
  rw [mix_un _ _ hr fun r _ => xor_lt _ _ (hf _) (hk _), ei, xor_twice]
theorem rnd_congr {f g k l : Nat → Nat} (h : ∀ i, i < 16 → f i = g i) (h' : ∀ i, i < 16 → k i = l i) (i : Nat) (hi : i < 16) : rnd f k i = rnd g l i := by
  unfold rnd
  rw [h' i hi, mcol_congr mixM (b := fun r => sbox (g (shf (i / 4) r))) _ fun r hr => by rw [h _ (shf_lt _ _ (by omega) hr)]]
theorem lst_congr {f g k l : Nat → Nat} (h : ∀ i, i < 16 → f i = g i) (h' : ∀ i, i < 16 → k i = l i) (i : Nat) (hi : i < 16) : lst f k i = lst g l i := by
  unfold lst; rw [h' i hi, h _ (shi_lt i hi)]
theorem unl_congr {f g k l : Nat → Nat} (h : ∀ i, i < 16 → f i = g i) (h' : ∀ i, i < 16 → k i = l i) (i : Nat) (hi : i < 16) : unl f k i = unl g l i := by
  unfold unl; rw [h' _ (shb_lt i hi), h _ (shb_lt i hi)]
theorem umx_congr {f g k l : Nat → Nat} (h : ∀ i, i < 16 → f i = g i) (h' : ∀ i, i < 16 → k i = l i) (i : Nat) (hi : i < 16) : umx f k i = umx g l i := by
  unfold umx
  exact mcol_congr unM _ fun r hr => by rw [h _ (by omega), h' _ (by omega)]
theorem unr_congr {f g k l : Nat → Nat} (h : ∀ i, i < 16 → f i = g i) (h' : ∀ i, i < 16 → k i = l i) (i : Nat) (hi : i < 16) : unr f k i = unr g l i :=
  unl_congr (umx_congr h h') (fun _ _ => rfl) i hi

/-! Four bytes as a number. -/
def wd (x : Nat → Nat) : Nat := x 0 + x 1 * 256 + x 2 * 65536 + x 3 * 16777216
theorem wd_lt {x : Nat → Nat} (h : ∀ i, i < 4 → x i < 256) : wd x < 4294967296 := by
  have h0 := h 0 (by decide); have h1 := h 1 (by decide); have h2 := h 2 (by decide); have h3 := h 3 (by decide)
  unfold wd; omega
theorem wd_byte {x : Nat → Nat} (h : ∀ i, i < 4 → x i < 256) (i : Nat) (hi : i < 4) : wd x / 256 ^ i % 256 = x i := by
  have h0 := h 0 (by decide); have h1 := h 1 (by decide); have h2 := h 2 (by decide); have h3 := h 3 (by decide)
  unfold wd
  match i, hi with
  | 0, _ => simp; omega
  | 1, _ => simp; omega
  | 2, _ => simp; omega
  | 3, _ => simp; omega
theorem byte_xor (a b i : Nat) : (a ^^^ b) / 256 ^ i % 256 = (a / 256 ^ i % 256) ^^^ (b / 256 ^ i % 256) := by
  have e : (256 : Nat) ^ i = 2 ^ (8 * i) := by rw [Nat.pow_mul]
  rw [e, ← Nat.shiftRight_eq_div_pow, ← Nat.shiftRight_eq_div_pow, ← Nat.shiftRight_eq_div_pow, Nat.shiftRight_xor_distrib]
  exact Nat.xor_mod_two_pow (n := 8)
/-- Numbers, added up by exclusive or. -/
def colx (m : Nat → Nat) : Nat → Nat
  | 0 => 0
  | k + 1 => colx m k ^^^ m k
theorem colx_lt (m : Nat → Nat) (k : Nat) (h : ∀ r, r < k → m r < 4294967296) : colx m k < 4294967296 := by
  induction k with
  | zero => exact Nat.zero_lt_succ _
  | succ k ih => exact Nat.xor_lt_two_pow (n := 32) (ih fun r hr => h r (by omega)) (h k (by omega))
/-- What a table has of a byte that counts as x: the column's numbers. -/
def tw (M : Nat → Nat → Nat) (r x : Nat) : Nat := wd fun i => times (M i r) x
theorem tw_lt (M : Nat → Nat → Nat) (r x : Nat) (h : ∀ i, i < 4 → M i r < 256) : tw M r x < 4294967296 := wd_lt fun i hi => times_lt _ _ (h i hi)
theorem colx_byte (m : Nat → Nat) (i : Nat) : colx m 4 / 256 ^ i % 256 = (((m 0 / 256 ^ i % 256) ^^^ (m 1 / 256 ^ i % 256)) ^^^ (m 2 / 256 ^ i % 256)) ^^^ (m 3 / 256 ^ i % 256) := by
  have e : colx m 4 = (((0 ^^^ m 0) ^^^ m 1) ^^^ m 2) ^^^ m 3 := rfl
  rw [e, Nat.zero_xor, byte_xor, byte_xor, byte_xor]
theorem tw_byte (M : Nat → Nat → Nat) (r x : Nat) (h : ∀ i, i < 4 → M i r < 256) (i : Nat) (hi : i < 4) : tw M r x / 256 ^ i % 256 = times (M i r) x :=
  wd_byte (x := fun i => times (M i r) x) (fun i hi => times_lt _ _ (h i hi)) i hi
theorem four_eq {x0 x1 x2 x3 y0 y1 y2 y3 : Nat} (h0 : x0 = y0) (h1 : x1 = y1) (h2 : x2 = y2) (h3 : x3 = y3) : ((x0 ^^^ x1) ^^^ x2) ^^^ x3 = ((y0 ^^^ y1) ^^^ y2) ^^^ y3 := by rw [h0, h1, h2, h3]
theorem col_byte (M : Nat → Nat → Nat) (a : Nat → Nat) (hM : ∀ i r, i < 4 → r < 4 → M i r < 256) (i : Nat) (hi : i < 4) : colx (fun r => tw M r (a r)) 4 / 256 ^ i % 256 = mcol M a i :=
  (colx_byte (fun r => tw M r (a r)) i).trans (four_eq (tw_byte M 0 (a 0) (fun i hi => hM i 0 hi (by decide)) i hi) (tw_byte M 1 (a 1) (fun i hi => hM i 1 hi (by decide)) i hi) (tw_byte M 2 (a 2) (fun i hi => hM i 2 hi (by decide)) i hi) (tw_byte M 3 (a 3) (fun i hi => hM i 3 hi (by decide)) i hi))
end Go.Proofs.YtdfbcdgneboilaaDoor
namespace Go.Proofs.YtdfbcdgneboilaaDoor
open Go.ChangeShapes Go.WideShapes Go.ChangeAt Go.RowKit
set_option maxRecDepth 20000

set_option maxHeartbeats 400000 in
theorem tell_in (b off : Nat) (n c : Nat) (x : Int) (at' i : Int) (p q : Addr) (w : World) (h1 : w.cell? p = some (.int .i64 at')) (h2 : w.cell? q = some (.slice (some ⟨b, off, none⟩) n c)) (hi : 0 ≤ i) (hi' : i ≤ 7) (hn : n ≤ 9223372036854775807) (hlo : decide (at' < -i) = false) (hhi : decide ((n : Int) - i ≤ at') = false)
    (hx : w.cell? ⟨b, off + (at' + i).toNat, none⟩ = some (.int .u8 x)) :
    Calls Tryd.prog 74 #[.int .i64 i, .pointer (some p), .pointer (some q)] w fun e w' => e = .returned (.int .u8 x) ∧ w' = w := by
  have g1 : 0 ≤ at' + i := by simp at hlo; omega
  have g2 : at' + i < n := by simp at hhi; omega
  have g3 : -9223372036854775808 ≤ at' := by omega
  have g4 : at' ≤ 9223372036854775807 := by omega
  go_enter Tryd.func74, Tryd.ntmps74
  go_wp2
  go_ret
  exact ⟨rfl, rfl⟩
set_option maxHeartbeats 400000 in
theorem tell_below (a : Option Addr) (n c : Nat) (at' i : Int) (p q : Addr) (w : World) (h1 : w.cell? p = some (.int .i64 at')) (_h2 : w.cell? q = some (.slice a n c)) (hi : 0 ≤ i) (hi' : i ≤ 7) (hlo : at' < -i) :
    Calls Tryd.prog 74 #[.int .i64 i, .pointer (some p), .pointer (some q)] w fun e w' => e = .returned (.int .u8 0) ∧ w' = w := by
  go_enter Tryd.func74, Tryd.ntmps74
  go_wp2
  go_ret
  exact ⟨rfl, rfl⟩
set_option maxHeartbeats 400000 in
theorem tell_above (a : Option Addr) (n c : Nat) (at' i : Int) (p q : Addr) (w : World) (h1 : w.cell? p = some (.int .i64 at')) (h2 : w.cell? q = some (.slice a n c)) (hi : 0 ≤ i) (hi' : i ≤ 7) (hn : n ≤ 9223372036854775807) (hlo : decide (at' < -i) = false) (hhi : (n : Int) - i ≤ at') :
    Calls Tryd.prog 74 #[.int .i64 i, .pointer (some p), .pointer (some q)] w fun e w' => e = .returned (.int .u8 0) ∧ w' = w := by
  go_enter Tryd.func74, Tryd.ntmps74
  go_wp2
  go_ret
  exact ⟨rfl, rfl⟩
theorem tell_any (v : Value) (bs : List UInt8) (at' i : Int) (p q : Addr) (w : World) (hv : IsB w v bs) (h1 : w.cell? p = some (.int .i64 at')) (h2 : w.cell? q = some v) (hi : 0 ≤ i) (hi' : i ≤ 7) :
    Calls Tryd.prog 74 #[.int .i64 i, .pointer (some p), .pointer (some q)] w fun e w' => e = .returned (.int .u8 (byteAt bs (at' + i) : Nat)) ∧ w' = w := by
  obtain ⟨hn, a, c, rfl, hr⟩ := hv
  by_cases hlo : at' < -i
  · rw [byteAt_out bs _ (by omega)]
    exact tell_below a _ c at' i p q w h1 h2 hi hi' hlo
  by_cases hhi : (bs.length : Int) - i ≤ at'
  · rw [byteAt_out bs _ (by omega)]
    exact tell_above a _ c at' i p q w h1 h2 hi hi' hn (by simpa using hlo) hhi
  rcases hr with hr | ⟨b, off, rfl, hc⟩
  · omega
  · rw [byteAt_in bs _ (by omega) (by omega)]
    exact tell_in b off _ c _ at' i p q w h1 h2 hi hi' hn (by simpa using hlo) (by simpa using hhi) (hc _ (by omega))

theorem teller_any (v : Value) (at' : Int) (w : World) (hv : ∃ a n c, v = .slice a n c) :
    Calls Tryd.prog 66 #[v, .int .i64 at'] w fun e w' => e = .returned (.func (.func 74) #[] #[.pointer (some ⟨w.heap.size + 1, 0, none⟩), .pointer (some ⟨w.heap.size, 0, none⟩)]) ∧ w' = (w.alloc (.cells #[v] 22)).alloc (.cells #[.int .i64 at'] 3) := by
  obtain ⟨a, n, c, rfl⟩ := hv
  have hmf : ∀ (fn : Fn) (first cap : Array Value) (w : World), (Instr.makeFunc fn first cap).run Tryd.prog w = .ok (.func fn first cap) w := fun _ _ _ _ => rfl
  go_enter Tryd.func66, Tryd.ntmps66
  go_wp2
  go_ret
  exact ⟨rfl, rfl⟩

set_option maxHeartbeats 800000 in
theorem word_w (v : Value) (bs : List UInt8) (at' : Int) (w : World) (hv : IsB w v bs) :
    Calls Tryd.prog 48 #[v, .int .i64 at'] w fun e w' => e = .returned (.int .u32 (num bs at' 4 : Nat)) ∧ w' = (w.alloc (.cells #[v] 22)).alloc (.cells #[.int .i64 at'] 3) := by
  have hs : ∃ a n c, v = .slice a n c := by obtain ⟨_, a, c, e, _⟩ := hv; exact ⟨a, _, c, e⟩
  have hbel : Below w.heap.size w ((w.alloc (.cells #[v] 22)).alloc (.cells #[.int .i64 at'] 3)) := ((Below.refl _ _).alloc (Nat.le_refl _) _).alloc (by simp) _
  obtain ⟨W, hW⟩ : ∃ W, W = (w.alloc (.cells #[v] 22)).alloc (.cells #[.int .i64 at'] 3) := ⟨_, rfl⟩
  have hv' : Hid (IsB W v bs) := by rw [hW]; exact hv.later hbel
  have c1 : W.cell? ⟨w.heap.size + 1, 0, none⟩ = some (.int .i64 at') := by rw [hW]; simp [go_sem]
  have c2 : W.cell? ⟨w.heap.size, 0, none⟩ = some v := by rw [hW]; simp [go_sem]
  go_enter Tryd.func48, Tryd.ntmps48
  go_wp2_with (go_at_call 66; refine (teller_any v at' _ hs).mono ?_; rintro e w' ⟨rfl, rfl⟩)
  rw [← hW]
  have hW' : Hid (W = (w.alloc (.cells #[v] 22)).alloc (.cells #[.int .i64 at'] 3)) := hW
  clear hW hs hv hbel
  go_loop [6, 11] (fun s i => ∃ k : Nat, k ≤ 4 ∧ i = .int .i64 k ∧ s = .int .u32 (num bs at' k : Nat)) (fun _ i => 4 - (intOf i).toNat)
  case atStart => exact ⟨0, by omega, rfl, rfl⟩
  case round =>
    obtain ⟨k, hk, rfl, rfl⟩ := hrel
    by_cases hlt : k < 4
    · go_wp2_with (go_at_call 74; refine (tell_any v bs at' k _ _ W hv'.out c1 c2 (by omega) (by omega)).mono ?_; rintro e w' ⟨rfl, rfl⟩)
      go_round
      case rel => exact ⟨k + 1, by omega, by go_num, by rw [or_step32 bs at' k hlt]⟩
      case measure => simp [intOf]; omega
    · go_wp2
      go_ret
      have : k = 4 := by omega
      subst this
      exact ⟨rfl, hW'.out⟩
theorem two_boxes (w : World) (a b : Array Value) (s t : TypeId) : Below w.heap.size w ((w.alloc (.cells a s)).alloc (.cells b t)) := ((Below.refl _ _).alloc (Nat.le_refl _) _).alloc (by simp) _
theorem word_any (v : Value) (bs : List UInt8) (at' : Int) (w : World) (hv : IsB w v bs) :
    Calls Tryd.prog 48 #[v, .int .i64 at'] w fun e w' => e = .returned (.int .u32 (num bs at' 4 : Nat)) ∧ Below w.heap.size w w' := by
  refine (word_w v bs at' w hv).mono ?_
  rintro e w' ⟨rfl, rfl⟩
  exact ⟨rfl, two_boxes _ _ _ _ _⟩
end Go.Proofs.YtdfbcdgneboilaaDoor
namespace Go.Proofs.YtdfbcdgneboilaaDoor
open Go.ChangeShapes Go.WideShapes Go.ChangeAt Go.RowKit
set_option maxRecDepth 20000

/-- A number's lowest bytes, so many. -/
def putB (n k : Nat) : List UInt8 := (List.range k).map fun i => UInt8.ofNat (n / 256 ^ i)
theorem length_putB (n k : Nat) : (putB n k).length = k := by simp [putB]
theorem cell_putB (n i : Nat) : Value.int .u8 (((UInt8.ofNat (n / 256 ^ i)).toNat : Nat) : Int) = .int .u8 ((n : Int) / 256 ^ i % 256) := by
  rw [UInt8.toNat_ofNat']
  congr 1
theorem cells4 (n : Nat) : bcells (putB n 4) = [.int .u8 ((n : Int) % 256), .int .u8 ((n : Int) / 256 % 256), .int .u8 ((n : Int) / 65536 % 256), .int .u8 ((n : Int) / 16777216 % 256)] := by
  have h := cell_putB n
  simp only [bcells, putB, List.range, List.range.loop, List.map_cons, List.map_nil, h]
  simp
set_option maxHeartbeats 800000 in
theorem putword_any (n : Nat) (hn : n < 4294967296) (w : World) :
    Calls Tryd.prog 47 #[.int .u32 n] w fun e w' => e = .returned (.agg (bcells (putB n 4)).toArray) ∧ Below w.heap.size w w' := by
  rw [cells4]
  go_enter Tryd.func47, Tryd.ntmps47
  go_wp2
  refine wp_loop_rounds 5 ?_
  rw [rounds_succ]
  go_wp2
  rw [rounds_succ]
  go_wp2
  rw [rounds_succ]
  go_wp2
  rw [rounds_succ]
  go_wp2
  rw [rounds_succ]
  go_wp2
  simp [bodyPost, results, Tryd.results47, go_sem]
  refine ⟨by omega, ?_⟩
  repeat (first | exact Below.refl _ _ | refine below_alloc ?_ _)
end Go.Proofs.YtdfbcdgneboilaaDoor
namespace Go.Proofs.YtdfbcdgneboilaaDoor
open Go.ChangeShapes Go.WideShapes Go.ChangeAt Go.RowKit
set_option maxRecDepth 20000

theorem part_byte (w : World) (xs : List UInt8) (i : Nat) (hi : i < xs.length) : (_root_.Go.part 5 (bcells xs).toArray (i * 1)).run Tryd.prog w = .ok (.int .u8 ((xs.getD i 0).toNat : Int)) w := by
  have h := bcells_get xs i hi
  exact run_part_plain w (by kernel_rfl) (by rw [Nat.mul_one]; simpa using h)
theorem items_bytes (w : World) (d : Nat) (xs ys : List UInt8) : ∀ (is : List Nat), (∀ i ∈ is, i < xs.length ∧ i < ys.length) → (Op.eqItems (d + 1) 5 1 (bcells xs).toArray (bcells ys).toArray is).run Tryd.prog w = .ok (is.all fun i => xs.getD i 0 == ys.getD i 0) w
  | [], _ => by simp [Op.eqItems]
  | i :: is, h => by
    have h1 := part_byte w xs i (h i (by simp)).1
    have h2 := part_byte w ys i (h i (by simp)).2
    have ih := items_bytes w d xs ys is (fun j hj => h j (by simp [hj]))
    have he := run_equalIn_int (P := Tryd.prog) w d 5 .u8 .u8 ((xs.getD i 0).toNat : Int) ((ys.getD i 0).toNat : Int) Tryd.underlying5
    simp only [Op.eqItems, Sem.run_bind, h1, h2, he, Result.andThen_ok, List.all_cons]
    have e : (((xs.getD i 0).toNat : Int) == ((ys.getD i 0).toNat : Int)) = (xs.getD i 0 == ys.getD i 0) := by
      by_cases hh : xs.getD i 0 = ys.getD i 0
      · rw [hh]; simp
      · have : (xs.getD i 0).toNat ≠ (ys.getD i 0).toNat := fun h' => hh (UInt8.toNat_inj.1 h')
        rw [beq_eq_false_iff_ne.2 hh, beq_eq_false_iff_ne.2 (by omega)]
    rw [e]
    cases xs.getD i 0 == ys.getD i 0
    · simp
    · simpa using ih
theorem eq_bytes (w : World) (t n : Nat) (ht : Tryd.prog.underlying t = some (.array n 5)) (xs ys : List UInt8) (hx : xs.length = n) (hy : ys.length = n) : (Op.equalIn 10000 t (.agg (bcells xs).toArray) (.agg (bcells ys).toArray)).run Tryd.prog w = .ok (decide (xs = ys)) w := by
  obtain ⟨i, hi⟩ : ∃ i, Tryd.prog.info? 5 = some i := ⟨_, rfl⟩
  rw [show 10000 = 9999 + 1 from rfl, run_equalIn_array w 9999 _ _ ht hi]
  have hc : Tryd.prog.cellsOf 5 = 1 := by kernel_rfl
  rw [hc, show 9999 = 9998 + 1 from rfl, items_bytes w 9998 xs ys _ (fun i hi => by simp at hi; omega)]
  congr 1
  rw [Bool.eq_iff_iff, decide_eq_true_iff, List.all_eq_true]
  constructor
  · intro h
    apply List.ext_getElem (by omega)
    intro i h1 h2
    have := h i (by simp; omega)
    simpa [h1, h2] using this
  · rintro rfl i _; simp
end Go.Proofs.YtdfbcdgneboilaaDoor
namespace Go.Proofs.YtdfbcdgneboilaaDoor
open Go.ChangeShapes Go.WideShapes Go.ChangeAt Go.RowKit
set_option maxRecDepth 20000

/-- The cells of a table. -/
def tabV (l : List Nat) : List Value := l.map fun (n : Nat) => Value.int .u8 (n : Int)

theorem tabV_len (l : List Nat) : (tabV l).length = l.length := by unfold tabV; rw [List.length_map]
theorem tabV_put (l : List Nat) (a x : Nat) : tabV (putN l a x) = ((tabV l).set a (.int .u8 (boxTo x 4 : Nat))).set (256 + boxTo x 4) (.int .u8 a) := by
  unfold tabV putN; rw [List.map_set, List.map_set]
theorem tabV_get (l : List Nat) (i n : Nat) (h : l[i]? = some n) : (tabV l)[i]? = some (.int .u8 n) := by
  unfold tabV; rw [List.getElem?_map, h]; rfl
/-- The noughts of new boxes. -/
def noughts : Array Value := (tabV (List.replicate 512 0)).toArray
theorem zero_boxes (w : World) : (zeroValue 80).run Tryd.prog w = .ok (.agg noughts) w := by kernel_rfl
theorem put_first (g : Nat) (w : World) (hg : w.heap[g]? = some (.cells noughts 80 (0, 0))) :
    Calls Tryd.prog 41 #[.pointer (some ⟨g, 0, none⟩), .int .u8 0, .int .u8 0] w fun e w' => e = .returned (.tuple #[]) ∧ w'.heap[g]? = some (.cells (tabV (ntab 0)).toArray 80 (0, 0)) ∧ Below g w w' := by
  have := put_any g (tabV (List.replicate 512 0)) 0 0 (by decide) (by decide) w hg (by rw [tabV_len, List.length_replicate])
  rw [← tabV_put] at this
  exact this
theorem put_next (g k : Nat) (w : World) (hg : w.heap[g]? = some (.cells (tabV (ntab k)).toArray 80 (0, 0))) :
    Calls Tryd.prog 41 #[.pointer (some ⟨g, 0, none⟩), .int .u8 (el k : Nat), .int .u8 (il k : Nat)] w fun e w' => e = .returned (.tuple #[]) ∧ w'.heap[g]? = some (.cells (tabV (ntab (k + 1))).toArray 80 (0, 0)) ∧ Below g w w' := by
  have := put_any g (tabV (ntab k)) (el k) (il k) (el_lt k) (il_lt k) w hg (by rw [tabV_len, ntab_len])
  rw [← tabV_put] at this
  exact this
theorem times_el (k : Nat) (w : World) : Calls Tryd.prog 43 #[.int .u8 (el k : Nat), .int .u8 3] w fun e w' => e = .returned (.int .u8 (el (k + 1) : Nat)) ∧ w' = w := times_any (el k) 3 (el_lt k) (by decide) w
theorem times_il (k : Nat) (w : World) : Calls Tryd.prog 43 #[.int .u8 (il k : Nat), .int .u8 (third : Nat)] w fun e w' => e = .returned (.int .u8 (il (k + 1) : Nat)) ∧ w' = w := times_any (il k) third (il_lt k) third_lt w
theorem inv_third (w : World) : Calls Tryd.prog 42 #[.int .u8 3] w fun e w' => e = .returned (.int .u8 (third : Nat)) ∧ w' = w := inverse_any 3 (by decide) w

/-- What a world holds at g: the boxes. -/
def IsBoxes (w : World) (g : Nat) : Prop := g < w.heap.size ∧ ∀ (j : Nat) (v : Value), (tabV (ntab 255))[j]? = some v → w.cell? ⟨g, j, none⟩ = some v
set_option maxHeartbeats 800000 in
set_option maxRecDepth 100000 in
theorem make_any (w : World) : Calls Tryd.prog 25 #[] w fun e w' => e = .returned (.pointer (some ⟨w.heap.size, 0, none⟩)) ∧ w'.heap[w.heap.size]? = some (.cells (tabV (ntab 255)).toArray 80 (0, 0)) ∧ Below w.heap.size w w' := by
  have hz := zero_boxes
  have h0 : (w.alloc (.cells noughts 80)).heap[w.heap.size]? = some (.cells noughts 80 (0, 0)) := heap_alloc_new _ _
  have H0 := hide h0
  clear h0
  have hb0 : Below w.heap.size w (w.alloc (.cells noughts 80)) := (Below.refl _ _).alloc (Nat.le_refl _) _
  go_enter Tryd.func25, Tryd.ntmps25
  go_wp2_with fail
  refine (put_first _ _ H0.out).mono ?_
  rintro e w1 ⟨rfl, hg1, b1⟩
  have G1 := hide hg1
  have b2 := hb0.trans b1
  clear hg1 b1 hb0 H0 hz
  go_wp2_with fail
  refine (inv_third _).mono ?_
  rintro e w2 ⟨rfl, rfl⟩
  go_wp2_with fail
  go_loopw [3, 4, 10] (fun x y i wr => ∃ k : Nat, k ≤ 255 ∧ i = .int .i64 k ∧ x = .int .u8 (el k : Nat) ∧ y = .int .u8 (il k : Nat) ∧ Hid (wr.heap[w.heap.size]? = some (.cells (tabV (ntab k)).toArray 80 (0, 0))) ∧ Below w.heap.size w wr) (fun _ _ i _ => 255 - (intOf i).toNat)
  case atStart => exact ⟨0, by omega, rfl, rfl, rfl, G1, b2⟩
  case round =>
    rename_i wr
    obtain ⟨k, hk, rfl, rfl, rfl, hg, hbel⟩ := hrel
    clear G1 b2
    by_cases hlt : k < 255
    · go_wp2_with fail
      refine (put_next _ k _ hg.out).mono ?_
      rintro e w3 ⟨rfl, hg3, b3⟩
      have G3 := hide hg3
      have b4 := hbel.trans b3
      clear hg3 b3 hg hbel
      go_wp2_with fail
      refine (times_el k _).mono ?_
      rintro e w4 ⟨rfl, rfl⟩
      go_wp2_with fail
      refine (times_il k _).mono ?_
      rintro e w5 ⟨rfl, rfl⟩
      go_wp2
      go_roundw
      case rel => exact ⟨k + 1, by omega, by go_num, rfl, rfl, G3, b4⟩
      case measure => simp [intOf]; omega
    · obtain rfl : k = 255 := by omega
      go_wp2
      go_ret
      exact ⟨rfl, hg.out, hbel⟩
theorem boxes_to {w : World} {g : Nat} (h : IsBoxes w g) (a : Nat) (ha : a < 256) : w.cell? ⟨g, a, none⟩ = some (.int .u8 (sbox a : Nat)) := by
  exact h.2 _ _ (tabV_get _ _ _ (tab_to a ha))
theorem boxes_back {w : World} {g : Nat} (h : IsBoxes w g) (a : Nat) (ha : a < 256) : w.cell? ⟨g, 256 + a, none⟩ = some (.int .u8 (isb a : Nat)) := by
  exact h.2 _ _ (tabV_get _ _ _ (tab_back a ha))
theorem IsBoxes.later {w w' : World} {g : Nat} (h : IsBoxes w g) (hb : Below w.heap.size w w') : IsBoxes w' g :=
  ⟨Nat.lt_of_lt_of_le h.1 hb.size, fun j v hj => (hb.cell h.1).trans (h.2 j v hj)⟩
theorem to_box (g : Nat) (a : Nat) (ha : a < 256) (w : World) (h : IsBoxes w g) : Calls Tryd.prog 59 #[.pointer (some ⟨g, 0, none⟩), .int .u8 a] w fun e w' => e = .returned (.int .u8 (sbox a : Nat)) ∧ w' = w := to_any g a _ ha w (boxes_to h a ha)
theorem back_box (g : Nat) (a : Nat) (ha : a < 256) (w : World) (h : IsBoxes w g) : Calls Tryd.prog 60 #[.pointer (some ⟨g, 0, none⟩), .int .u8 a] w fun e w' => e = .returned (.int .u8 (isb a : Nat)) ∧ w' = w := back_any g a _ ha w (boxes_back h a ha)

end Go.Proofs.YtdfbcdgneboilaaDoor
namespace Go.Proofs.YtdfbcdgneboilaaDoor
open Go.ChangeShapes Go.WideShapes Go.ChangeAt Go.RowKit
set_option maxRecDepth 20000

/-- So many bytes, as cells. -/
def bc (n : Nat) (f : Nat → Nat) : List Value := (List.range n).map fun i => Value.int .u8 (f i : Nat)
theorem bc_len (n : Nat) (f : Nat → Nat) : (bc n f).length = n := by unfold bc; rw [List.length_map, List.length_range]
theorem bc_get (n : Nat) (f : Nat → Nat) (i : Nat) (h : i < n) : (bc n f)[i]? = some (.int .u8 (f i : Nat)) := by
  unfold bc; rw [List.getElem?_map, List.getElem?_range h]; rfl
theorem bc_congr {n : Nat} {f g : Nat → Nat} (h : ∀ i, i < n → f i = g i) : bc n f = bc n g := by
  unfold bc; exact List.map_congr_left fun i hi => by rw [h i (List.mem_range.1 hi)]
theorem bc_set (n : Nat) (f : Nat → Nat) (j x : Nat) : (bc n f).set j (.int .u8 (x : Nat)) = bc n fun i => if i = j then x else f i := by
  apply List.ext_getElem
  · rw [List.length_set, bc_len, bc_len]
  · intro i h1 h2
    rw [List.getElem_set]
    simp only [bc, List.getElem_map, List.getElem_range]
    by_cases e : j = i
    · rw [if_pos e, if_pos e.symm]
    · rw [if_neg e, if_neg (Ne.symm e)]
theorem bc_one (n : Nat) (f : Nat → Nat) : (bc n f).toArray.all (·.oneCell') = true := by
  rw [Array.all_eq_true]; intro i hi; simp [bc]; rfl
/-- A list's bytes as a function. -/
def lf (bs : List UInt8) (i : Nat) : Nat := (bs.getD i 0).toNat
theorem lf_byt (bs : List UInt8) : Byt (lf bs) := fun _ => UInt8.toNat_lt _
theorem bcells_bc (bs : List UInt8) : bcells bs = bc bs.length (lf bs) := by
  apply List.ext_getElem
  · rw [length_bcells, bc_len]
  · intro i h1 h2
    rw [length_bcells] at h1
    simp only [bc, bcells, List.getElem_map, List.getElem_range, lf]
    rw [List.getD_eq_getElem?_getD, List.getElem?_eq_getElem h1]; rfl
def toB (n : Nat) (f : Nat → Nat) : List UInt8 := (List.range n).map fun i => UInt8.ofNat (f i)
theorem toB_len (n : Nat) (f : Nat → Nat) : (toB n f).length = n := by simp [toB]
theorem toB_get (n : Nat) (f : Nat → Nat) (hf : Byt f) (i : Nat) (h : i < n) : lf (toB n f) i = f i := by
  unfold lf toB
  rw [List.getD_eq_getElem?_getD, List.getElem?_map, List.getElem?_range h]
  show (UInt8.ofNat (f i)).toNat = _
  rw [UInt8.toNat_ofNat', Nat.mod_eq_of_lt (hf i)]
theorem bc_toB (n : Nat) (f : Nat → Nat) (hf : Byt f) : bc n f = bcells (toB n f) := by
  rw [bcells_bc, toB_len]; exact bc_congr fun i hi => (toB_get n f hf i hi).symm
/-- Are two blocks the same? -/
def eqb (n : Nat) (f g : Nat → Nat) : Bool := (List.range n).all fun i => f i == g i
theorem eqb_iff (n : Nat) (f g : Nat → Nat) : eqb n f g = true ↔ ∀ i, i < n → f i = g i := by
  unfold eqb; rw [List.all_eq_true]; simp
theorem eqb_refl (n : Nat) (f : Nat → Nat) : eqb n f f = true := (eqb_iff n f f).2 fun _ _ => rfl
theorem eq_bc (w : World) (t n : Nat) (ht : Tryd.prog.underlying t = some (.array n 5)) (f g : Nat → Nat) (hf : Byt f) (hg : Byt g) : (Op.equalIn 10000 t (.agg (bc n f).toArray) (.agg (bc n g).toArray)).run Tryd.prog w = .ok (eqb n f g) w := by
  rw [bc_toB n f hf, bc_toB n g hg, eq_bytes w t n ht _ _ (toB_len n f) (toB_len n g)]
  congr 1
  rw [Bool.eq_iff_iff, decide_eq_true_iff, eqb_iff]
  constructor
  · intro h i hi; rw [← toB_get n f hf i hi, ← toB_get n g hg i hi, h]
  · intro h; exact List.map_congr_left fun i hi => by rw [h i (List.mem_range.1 hi)]
/-- The first ones alone. -/
def upto (k : Nat) (f : Nat → Nat) (i : Nat) : Nat := if i < k then f i else 0
theorem upto_set (n k : Nat) (f : Nat → Nat) : (bc n (upto k f)).set k (.int .u8 (f k : Nat)) = bc n (upto (k + 1) f) := by
  rw [bc_set]
  refine bc_congr fun i _ => ?_
  unfold upto
  by_cases e : i = k
  · subst e; rw [if_pos rfl, if_pos (by omega)]
  · rw [if_neg e]
    by_cases h : i < k
    · rw [if_pos h, if_pos (by omega)]
    · rw [if_neg h, if_neg (by omega)]
theorem upto_zero (n : Nat) (f : Nat → Nat) : bc n (upto 0 f) = bc n fun _ => 0 := bc_congr fun i _ => by unfold upto; rw [if_neg (by omega)]
theorem upto_all (n : Nat) (f : Nat → Nat) : bc n (upto n f) = bc n f := bc_congr fun i hi => by unfold upto; rw [if_pos hi]
theorem zero16 (w : World) : (zeroValue 45).run Tryd.prog w = .ok (.agg (bc 16 fun _ => 0).toArray) w := by kernel_rfl
theorem zero4 (w : World) : (zeroValue 62).run Tryd.prog w = .ok (.agg (bc 4 fun _ => 0).toArray) w := by kernel_rfl
theorem row_cell {w : World} {g n : Nat} {f : Nat → Nat} {t : TypeId} (h : w.heap[g]? = some (.cells (bc n f).toArray t (0, 0))) (i : Nat) (hi : i < n) : w.cell? ⟨g, i, none⟩ = some (.int .u8 (f i : Nat)) := by
  rw [cell_of_row w g _ _ _ _ h]; simpa using bc_get n f i hi
theorem far {w : World} {p : Addr} {x v : Value} {g i : Nat} (h : w.cell? p = some x) (hne : p.block ≠ g) : (w.setCell ⟨g, i, none⟩ v).cell? p = some x := by
  rw [World.cell?_setCell_far _ _ _ _ (by simpa using fun h' => hne h'.symm)]; exact h
theorem put4 (n : Nat) (hn : n < 4294967296) (w : World) :
    Calls Tryd.prog 47 #[.int .u32 n] w fun e w' => e = .returned (.agg (bc 4 fun i => n / 256 ^ i % 256).toArray) ∧ Below w.heap.size w w' := by
  have h := putword_any n hn w
  have e : bcells (putB n 4) = bc 4 fun i => n / 256 ^ i % 256 := by
    rw [bcells_bc, length_putB]
    refine bc_congr fun i hi => ?_
    unfold lf putB
    rw [List.getD_eq_getElem?_getD, List.getElem?_map, List.getElem?_range hi]
    show (UInt8.ofNat (n / 256 ^ i)).toNat = _
    rw [UInt8.toNat_ofNat']
  rw [e] at h
  exact h
theorem xor_u32 (a b : Nat) (ha : a < 4294967296) (hb : b < 4294967296) : bits .xor .u32 (a : Int) (b : Int) = ((a ^^^ b : Nat) : Int) := by
  have hx : a ^^^ b < 2 ^ 32 := Nat.xor_lt_two_pow (by omega) (by omega)
  have h1 : (BitVec.ofInt 32 (a : Int)).toNat = a := by
    rw [BitVec.ofInt_natCast, BitVec.toNat_ofNat]; exact Nat.mod_eq_of_lt (by omega)
  have h2 : (BitVec.ofInt 32 (b : Int)).toNat = b := by
    rw [BitVec.ofInt_natCast, BitVec.toNat_ofNat]; exact Nat.mod_eq_of_lt (by omega)
  show IntKind.u32.wrap ((BitVec.ofInt 32 (a : Int) ^^^ BitVec.ofInt 32 (b : Int)).toNat : Int) = _
  rw [BitVec.toNat_xor, h1, h2, IntKind.wrap_u32]
  omega
theorem shifted_any (c r : Nat) (hc : c < 4) (hr : r < 4) (w : World) : Calls Tryd.prog 51 #[.int .i64 c, .int .i64 r] w fun e w' => e = .returned (.int .i64 (shf c r : Nat)) ∧ w' = w := by
  go_enter Tryd.func51, Tryd.ntmps51
  go_wp2
  go_ret
  refine ⟨ret_int ?_, rfl⟩
  unfold shf
  omega
end Go.Proofs.YtdfbcdgneboilaaDoor
