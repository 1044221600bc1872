/- Own: the reckoning of layer 8: parts' numbers and the value (no statement is proved here). -/
import Derived.Test.YtenjcieaoedfaaaP8
namespace Go.Proofs.Ytenjcieaoedfaaa.Ab
open Go.Proofs
set_option linter.unusedSimpArgs false
set_option linter.unusedVariables false
theorem num_congr {x y : Int} (h : x % PP = y % PP) : num x = num y := by unfold num; rw [h]
theorem plus_x (x y : Int) : CallOK Try.prog (fun _ => none) 21 [.ex (.agg (ar32 5 (num x)).toArray), .ex (.agg (ar32 5 (num y)).toArray)] [] { val := .ex (.agg (ar32 5 (num (x + y))).toArray) } := by
  have h := plus_n (num x) (num y) (num_R5 x) (num_R5 y)
  rw [V_num, V_num, num_congr (x := x % PP + y % PP) (y := x + y) (by rw [m_add, m_add'])] at h
  exact h
theorem times_x (x y : Int) : CallOK Try.prog (fun _ => none) 23 [.ex (.agg (ar32 5 (num x)).toArray), .ex (.agg (ar32 5 (num y)).toArray)] [] { val := .ex (.agg (ar32 5 (num (x * y))).toArray) } := by
  have h := times_n (num x) (num y) (num_R5 x) (num_R5 y)
  rw [V_num, V_num, num_congr (x := x % PP * (y % PP)) (y := x * y) (by rw [m_mul, m_mul'])] at h
  exact h
theorem low_x (x : Int) : CallOK Try.prog (fun _ => none) 10 [.ex (.agg (ar32 5 (num x)).toArray)] [] { val := .ex (.agg (ar8 16 (lowv x)).toArray) } := by
  have h := low_n (num x) (num_R5 x)
  have e : lowv (V (num x)) = lowv x := by unfold lowv; rw [V_num, Int.emod_emod_of_dvd _ (Int.dvd_refl _)]
  rw [e] at h
  exact h
/-- How many bytes a part has. -/
def psz (l : List Int) (q : Nat) : Nat := min 16 (l.length - 16 * q)
/-- The number of a part, with a bit behind it. -/
def pnum (l : List Int) (q : Nat) : Int := leN (psz l q) (fun j => bAt l ((16 * q + j : Nat) : Int)) + 256 ^ psz l q
/-- The value of so many parts. -/
def hv (K : Int) (l : List Int) : Nat → Int
  | 0 => 0
  | q + 1 => (hv K l q + pnum l q) * K
/-- The value of all. -/
def tv (K : Int) (l : List Int) : Int := hv K l ((l.length + 15) / 16)
def wt (l : List Int) (j : Nat) : Int := bAt l ((16 * (l.length / 16) + j : Nat) : Int)
theorem bAt_app (l m : List Int) (j : Nat) : bAt (l ++ m) (j : Int) = if j < l.length then bAt l (j : Int) else bAt m ((j - l.length : Nat) : Int) := by
  unfold bAt
  simp only [List.length_append, Int.toNat_natCast]
  by_cases h : j < l.length
  · rw [if_pos h, if_pos ⟨by omega, by omega⟩, if_pos ⟨by omega, by omega⟩, List.getD_eq_getElem?_getD, List.getD_eq_getElem?_getD, List.getElem?_append_left h]
  · rw [if_neg h]
    by_cases h2 : j < l.length + m.length
    · rw [if_pos ⟨by omega, by omega⟩, if_pos ⟨by omega, by omega⟩, List.getD_eq_getElem?_getD, List.getD_eq_getElem?_getD, List.getElem?_append_right (by omega)]
    · rw [if_neg (by omega), if_neg (by omega)]
theorem bAt_take (l : List Int) (t j : Nat) : bAt (l.take t) (j : Int) = if j < t then bAt l (j : Int) else 0 := by
  unfold bAt
  simp only [List.length_take, Int.toNat_natCast]
  by_cases h : j < t
  · rw [if_pos h]
    by_cases h2 : j < l.length
    · rw [if_pos ⟨by omega, by omega⟩, if_pos ⟨by omega, by omega⟩, List.getD_eq_getElem?_getD, List.getD_eq_getElem?_getD, List.getElem?_take, if_pos h]
    · rw [if_neg (by omega), if_neg (by omega)]
  · rw [if_neg h, if_neg (by omega)]
theorem leN_zero_top (n : Nat) (w : Nat → Int) (m : Nat) (h : n ≤ m) (hz : ∀ j, n ≤ j → j < m → w j = 0) : leN m w = leN n w := by
  induction m with
  | zero => have : n = 0 := by omega
            subst this; rfl
  | succ m ih =>
    by_cases h1 : n = m + 1
    · subst h1; rfl
    · show leN m w + 256 ^ m * w m = leN n w
      rw [ih (by omega) (fun j a b => hz j a (by omega)), hz m (by omega) (by omega), Int.mul_zero, Int.add_zero]
/-- A part's number: its bytes, noughts behind them, and a bit there. -/
theorem le16_mark (w : Nat → Int) (n : Nat) (hn : n < 16) (hz : ∀ j, n ≤ j → j < 16 → w j = 0) : le16 (upd w n 1) = leN n w + 256 ^ n := by
  rw [← leN16, leN_upd 16 w n hn, hz n (by omega) hn, leN_zero_top n w 16 (by omega) hz]
  omega
theorem le16_full (w : Nat → Int) : le16 w + 1 * 340282366920938463463374607431768211456 = leN 16 w + 256 ^ 16 := by
  rw [leN16]; rfl
/-- Parts that both have. -/
theorem pnum_app (l m : List Int) (q : Nat) (h : 16 * q + 16 ≤ l.length) : pnum (l ++ m) q = pnum l q := by
  have e : psz (l ++ m) q = psz l q := by unfold psz; rw [List.length_append]; omega
  unfold pnum
  rw [e]
  congr 1
  refine leN_congr fun j hj => ?_
  have hj' : j < 16 := by unfold psz at hj; omega
  rw [bAt_app, if_pos (by omega)]
theorem hv_app (K : Int) (l m : List Int) (q : Nat) (h : 16 * q ≤ l.length) : hv K (l ++ m) q = hv K l q := by
  induction q with
  | zero => rfl
  | succ q ih => unfold hv; rw [ih (by omega), pnum_app l m q (by omega)]
/-- The number of what waits. -/
theorem pnum_wt (l : List Int) : pnum l (l.length / 16) = leN (l.length % 16) (wt l) + 256 ^ (l.length % 16) := by
  have e : psz l (l.length / 16) = l.length % 16 := by unfold psz; omega
  unfold pnum wt
  rw [e]
theorem wt_zero (l : List Int) (j : Nat) (h : l.length % 16 ≤ j) : wt l j = 0 := by
  unfold wt
  exact bAt_out _ _ (by omega)
theorem r8_wt (l : List Int) (h : All8 l) (j : Nat) : R8 (wt l j) := h.at _
theorem leL_eq (l : List Int) : leL l = leN l.length (fun j => bAt l (j : Int)) := by
  have e : (List.range l.length).map (fun j => bAt l ((j : Nat) : Int)) = l := by
    apply List.ext_getElem?
    intro i
    by_cases hi : i < l.length
    · simp only [List.getElem?_map, List.getElem?_range hi, Option.map_some]
      rw [bAt_in l _ (by omega) (by omega)]
      simp [List.getElem?_eq_getElem hi]
    · rw [List.getElem?_eq_none (by simpa using Nat.le_of_not_lt hi), List.getElem?_eq_none (by omega)]
  rw [← leL_map, e]
end Go.Proofs.Ytenjcieaoedfaaa.Ab
