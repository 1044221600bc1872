/- Own: the tables that Make lays, as plain lists (no statement is proved here). -/
import Derived.Test.YtlkihbmkekadeaaDoorBox
namespace Go.Proofs.YtlkihbmkekadeaaDoor

/-- The box of a byte. -/
def sbox (a : Nat) : Nat := boxTo (inv a) 4
def putN (l : List Nat) (a x : Nat) : List Nat := (l.set a (boxTo x 4)).set (256 + boxTo x 4) a
def third : Nat := inv 3
def el : Nat → Nat
  | 0 => 1
  | k + 1 => times (el k) 3
def il : Nat → Nat
  | 0 => 1
  | k + 1 => times (il k) third
/-- The table behind k rounds. -/
def ntab : Nat → List Nat
  | 0 => putN (List.replicate 512 0) 0 0
  | k + 1 => putN (ntab k) (el k) (il k)
theorem third_lt : third < 256 := inv_lt 3 (by decide)
theorem el_lt : ∀ k, el k < 256
  | 0 => by decide
  | k + 1 => times_lt _ _ (el_lt k)
theorem il_lt : ∀ k, il k < 256
  | 0 => by decide
  | k + 1 => times_lt _ _ (il_lt k)
theorem putN_len (l : List Nat) (a x : Nat) : (putN l a x).length = l.length := by unfold putN; rw [List.length_set, List.length_set]
theorem ntab_len : ∀ k, (ntab k).length = 512
  | 0 => by rw [ntab, putN_len, List.length_replicate]
  | k + 1 => by rw [ntab, putN_len, ntab_len k]
theorem sbox_lt (a : Nat) (ha : a < 256) : sbox a < 256 := boxTo_lt _ (inv_lt a ha) 4
theorem sbox_zero : boxTo 0 4 = sbox 0 := by rw [sbox, inv_zero]

theorem el_il : ∀ k, times (el k) (il k) = 1
  | 0 => by decide +kernel
  | k + 1 => by
    have h3 : times 3 third = 1 := times_inv 3 (by decide) (by decide)
    have e := el_lt k
    have i := il_lt k
    have t := third_lt
    rw [el, il, times_assoc _ _ _ e (by decide) (times_lt _ _ i), times_comm (il k) third i t, ← times_assoc 3 third (il k) (by decide) t i, h3, one_times _ i, el_il k]
theorem inv_unique (a b : Nat) (ha : a < 256) (hb : b < 256) (h : times a b = 1) : b = inv a := by
  have h0 : a ≠ 0 := by rintro rfl; rw [zero_times] at h; exact absurd h (by decide)
  have h1 := times_inv a ha h0
  have e : times (inv a) (times a b) = b := by
    rw [← times_assoc _ _ _ (inv_lt a ha) ha hb, times_comm _ _ (inv_lt a ha) ha, h1, one_times b hb]
  rw [h, times_one _ (inv_lt a ha)] at e
  exact e.symm
theorem il_inv (k : Nat) : il k = inv (el k) := inv_unique _ _ (el_lt k) (il_lt k) (el_il k)
theorem el_pw : ∀ k, el k = pw 3 k
  | 0 => rfl
  | k + 1 => by rw [el, pw, el_pw k]

/-! All elements but 0 are powers of 3; no two bytes have one box: by tables that are held against the functions. -/
def lg : List Nat := [0, 0, 25, 1, 50, 2, 26, 198, 75, 199, 27, 104, 51, 238, 223, 3, 100, 4, 224, 14, 52, 141, 129, 239, 76, 113, 8, 200, 248, 105, 28, 193,
    125, 194, 29, 181, 249, 185, 39, 106, 77, 228, 166, 114, 154, 201, 9, 120, 101, 47, 138, 5, 33, 15, 225, 36, 18, 240, 130, 69, 53, 147, 218, 142,
    150, 143, 219, 189, 54, 208, 206, 148, 19, 92, 210, 241, 64, 70, 131, 56, 102, 221, 253, 48, 191, 6, 139, 98, 179, 37, 226, 152, 34, 136, 145, 16,
    126, 110, 72, 195, 163, 182, 30, 66, 58, 107, 40, 84, 250, 133, 61, 186, 43, 121, 10, 21, 155, 159, 94, 202, 78, 212, 172, 229, 243, 115, 167, 87,
    175, 88, 168, 80, 244, 234, 214, 116, 79, 174, 233, 213, 231, 230, 173, 232, 44, 215, 117, 122, 235, 22, 11, 245, 89, 203, 95, 176, 156, 169, 81, 160,
    127, 12, 246, 111, 23, 196, 73, 236, 216, 67, 31, 45, 164, 118, 123, 183, 204, 187, 62, 90, 251, 96, 177, 134, 59, 82, 161, 108, 170, 85, 41, 157,
    151, 178, 135, 144, 97, 190, 220, 252, 188, 149, 207, 205, 55, 63, 91, 209, 83, 57, 132, 60, 65, 162, 109, 71, 20, 42, 158, 93, 86, 242, 211, 171,
    68, 17, 146, 217, 35, 32, 46, 137, 180, 124, 184, 38, 119, 153, 227, 165, 103, 74, 237, 222, 197, 49, 254, 24, 13, 99, 140, 128, 192, 247, 112, 7]
theorem lg_right : ∀ j, j < 256 → j ≠ 0 → pl 8 3 (lg.getD j 0) 1 = j ∧ lg.getD j 0 < 255 := by decide +kernel
theorem all_el (j : Nat) (hj : j < 256) (h0 : j ≠ 0) : ∃ i, i < 255 ∧ el i = j := by
  obtain ⟨h1, h2⟩ := lg_right j hj h0
  refine ⟨lg.getD j 0, h2, ?_⟩
  rw [el_pw]
  rw [pl_eq 8 3 _ 1 (by decide) (by decide) (Nat.lt_of_lt_of_le h2 (by decide)), one_times _ (pw_lt 3 (by decide) _)] at h1
  exact h1
def isbL : List Nat := [82, 9, 106, 213, 48, 54, 165, 56, 191, 64, 163, 158, 129, 243, 215, 251, 124, 227, 57, 130, 155, 47, 255, 135, 52, 142, 67, 68, 196, 222, 233, 203,
    84, 123, 148, 50, 166, 194, 35, 61, 238, 76, 149, 11, 66, 250, 195, 78, 8, 46, 161, 102, 40, 217, 36, 178, 118, 91, 162, 73, 109, 139, 209, 37,
    114, 248, 246, 100, 134, 104, 152, 22, 212, 164, 92, 204, 93, 101, 182, 146, 108, 112, 72, 80, 253, 237, 185, 218, 94, 21, 70, 87, 167, 141, 157, 132,
    144, 216, 171, 0, 140, 188, 211, 10, 247, 228, 88, 5, 184, 179, 69, 6, 208, 44, 30, 143, 202, 63, 15, 2, 193, 175, 189, 3, 1, 19, 138, 107,
    58, 145, 17, 65, 79, 103, 220, 234, 151, 242, 207, 206, 240, 180, 230, 115, 150, 172, 116, 34, 231, 173, 53, 133, 226, 249, 55, 232, 28, 117, 223, 110,
    71, 241, 26, 113, 29, 41, 197, 137, 111, 183, 98, 14, 170, 24, 190, 27, 252, 86, 62, 75, 198, 210, 121, 32, 154, 219, 192, 254, 120, 205, 90, 244,
    31, 221, 168, 51, 136, 7, 199, 49, 177, 18, 16, 89, 39, 128, 236, 95, 96, 81, 127, 169, 25, 181, 74, 13, 45, 229, 122, 159, 147, 201, 156, 239,
    160, 224, 59, 77, 174, 42, 245, 176, 200, 235, 187, 60, 131, 83, 153, 97, 23, 43, 4, 126, 186, 119, 214, 38, 225, 105, 20, 99, 85, 33, 12, 125]
/-- The box back. -/
def isb (b : Nat) : Nat := isbL.getD b 0
theorem isb_sbox : ∀ a, a < 256 → isb (sbox a) = a := by decide +kernel
theorem sbox_isb : ∀ b, b < 256 → sbox (isb b) = b ∧ isb b < 256 := by decide +kernel
theorem sbox_inj (a b : Nat) (ha : a < 256) (hb : b < 256) (h : sbox a = sbox b) : a = b := by
  rw [← isb_sbox a ha, ← isb_sbox b hb, h]
theorem sbox_other : ∀ a, a < 256 → sbox a ≠ a ∧ sbox a ≠ 255 - a := by decide +kernel

theorem put_get (l : List Nat) (hl : l.length = 512) (e a : Nat) (he : e < 256) (ha : a < 256) (h : a = e ∨ (l[a]? = some (sbox a) ∧ l[256 + sbox a]? = some a)) :
    (putN l e (inv e))[a]? = some (sbox a) ∧ (putN l e (inv e))[256 + sbox a]? = some a := by
  have e1 : boxTo (inv e) 4 = sbox e := rfl
  have se := sbox_lt e he
  have sa := sbox_lt a ha
  unfold putN
  rw [e1]
  by_cases hae : a = e
  · subst hae
    constructor
    · rw [List.getElem?_set_ne (by omega), List.getElem?_set_self (by omega)]
    · rw [List.getElem?_set_self (by rw [List.length_set]; omega)]
  · obtain ⟨h1, h2⟩ := h.resolve_left hae
    have hne : sbox a ≠ sbox e := fun h => hae (sbox_inj a e ha he h)
    constructor
    · rw [List.getElem?_set_ne (by omega), List.getElem?_set_ne (by omega), h1]
    · rw [List.getElem?_set_ne (by omega), List.getElem?_set_ne (by omega), h2]
theorem ntab_get : ∀ k a, a < 256 → (a = 0 ∨ ∃ i, i < k ∧ el i = a) → (ntab k)[a]? = some (sbox a) ∧ (ntab k)[256 + sbox a]? = some a
  | 0, a, ha, h => by
    have h0 : a = 0 := h.resolve_right (by rintro ⟨i, hi, _⟩; omega)
    rw [ntab]
    have := put_get (List.replicate 512 0) List.length_replicate 0 a (by decide) ha (.inl h0)
    rwa [inv_zero] at this
  | k + 1, a, ha, h => by
    rw [ntab, il_inv]
    refine put_get (ntab k) (ntab_len k) (el k) a (el_lt k) ha ?_
    by_cases hk : a = el k
    · exact .inl hk
    · refine .inr (ntab_get k a ha ?_)
      rcases h with h | ⟨i, hi, he⟩
      · exact .inl h
      · exact .inr ⟨i, by
          have : i ≠ k := by rintro rfl; exact hk he.symm
          omega, he⟩
theorem tab_to (a : Nat) (ha : a < 256) : (ntab 255)[a]? = some (sbox a) := by
  refine (ntab_get 255 a ha ?_).1
  by_cases h : a = 0
  · exact .inl h
  · exact .inr (all_el a ha h)
theorem tab_back (b : Nat) (hb : b < 256) : (ntab 255)[256 + b]? = some (isb b) := by
  obtain ⟨h1, h2⟩ := sbox_isb b hb
  have := (ntab_get 255 (isb b) h2 (by
    by_cases h : isb b = 0
    · exact .inl h
    · exact .inr (all_el _ h2 h))).2
  rwa [h1] at this
end Go.Proofs.YtlkihbmkekadeaaDoor
