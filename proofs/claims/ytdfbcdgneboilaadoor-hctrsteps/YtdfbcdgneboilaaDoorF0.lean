/- Own: whole numbers as floats (no statement is proved here). -/
import Derived.Test.YtdfbcdgneboilaaDoorA5
namespace Go.Proofs.YtdfbcdgneboilaaDoor.Ab
open Go.Proofs
open Ieee (double Format Datum Toward signed)
set_option linter.unusedSimpArgs false
set_option linter.unusedVariables false
/-- A whole number as a float. -/
def fb (n : Nat) : Nat := FloatKind.f64.nearest (n : Int)
theorem fb_eq (n : Nat) : fb n = double.nearest false n 0 := by
  unfold fb FloatKind.nearest FloatKind.encode
  show double.nearest (decide ((n : Int) < 0)) (n : Int).natAbs 0 = _
  have : decide ((n : Int) < 0) = false := decide_eq_false (by omega)
  rw [this, Int.natAbs_natCast]
def kk (n : Nat) : Nat := if n = 0 then 1074 else 52 - n.log2
theorem log2_scale (c k : Nat) (h : 0 < c) : (c * 2 ^ k).log2 = c.log2 + k := by
  have h1 : c * 2 ^ k ≠ 0 := by have := Nat.pow_pos (n := k) (show 0 < 2 by decide); exact Nat.ne_of_gt (Nat.mul_pos h this)
  apply (Nat.log2_eq_iff h1).2
  have h2 := Nat.log2_self_le (n := c) (by omega)
  have h3 := Nat.lt_log2_self (n := c)
  constructor
  · rw [Nat.pow_add]; exact Nat.mul_le_mul_right _ h2
  · rw [show c.log2 + k + 1 = (c.log2 + 1) + k by omega, Nat.pow_add]; exact Nat.mul_lt_mul_of_pos_right h3 (Nat.pow_pos (by decide))
theorem log2_lt53 {n : Nat} (h0 : 0 < n) (h : n < 2 ^ 53) : n.log2 ≤ 52 := by
  have := (Nat.log2_lt (by omega)).2 h
  omega
theorem cut_even0 (neg : Bool) (n : Nat) : Toward.even.cut neg n 0 = n := by
  unfold Toward.cut
  simp [Nat.mod_one]
theorem cut_even_exact (neg : Bool) (c k : Nat) (h0 : 0 < c) : Toward.even.cut neg (c * 2 ^ k) k = c := by
  unfold Toward.cut
  have hl := log2_scale c k h0
  rw [hl, Nat.min_eq_left (by omega), Nat.one_shiftLeft]
  have hp : 0 < 2 ^ k := Nat.pow_pos (by decide)
  simp only
  rw [Nat.mul_div_cancel _ hp, Nat.mul_mod_left]
  have e1 : decide (2 ^ k < 2 * 0) = false := decide_eq_false (by omega)
  have e2 : (2 ^ k == 2 * 0) = false := by rw [beq_eq_false_iff_ne]; omega
  rw [e1, e2]
  simp
theorem nearest_pos (c : Nat) (h0 : 0 < c) (h : c < 2 ^ 53) (k : Nat) (hk : k ≤ 1074) : double.nearest false (c * 2 ^ k) (-(k : Int)) = (c.log2 + 1022) * 2 ^ 52 + c * 2 ^ (52 - c.log2) := by
  have hl := log2_lt53 h0 h
  have hp : 0 < 2 ^ k := Nat.pow_pos (by decide)
  have hne : c * 2 ^ k ≠ 0 := Nat.ne_of_gt (Nat.mul_pos h0 hp)
  have hlp : double.leastPlace = -1074 := by decide
  have hbi : double.binade = 2 ^ 52 := by decide
  have hin : double.infRung = 2047 * 2 ^ 52 := by decide
  unfold Format.nearest
  rw [if_neg hne, log2_scale c k h0, hlp, hbi, hin]
  have hlast : max (-(k : Int) + ((c.log2 + k : Nat) : Int) - (double.fractionBits : Int)) (-1074) = (c.log2 : Int) - 52 := by
    have : double.fractionBits = 52 := rfl
    rw [this]; omega
  simp only
  rw [hlast, show ((c.log2 : Int) - 52 - -1074).toNat = c.log2 + 1022 by omega]
  have hcut : Toward.even.cut false ((c * 2 ^ k) <<< (-(k : Int) - ((c.log2 : Int) - 52)).toNat) ((c.log2 : Int) - 52 - -(k : Int)).toNat = c * 2 ^ (52 - c.log2) := by
    by_cases hle : k ≤ 52 - c.log2
    · rw [show ((c.log2 : Int) - 52 - -(k : Int)).toNat = 0 by omega, cut_even0, Nat.shiftLeft_eq, Nat.mul_assoc, ← Nat.pow_add, show k + (-(k : Int) - ((c.log2 : Int) - 52)).toNat = 52 - c.log2 by omega]
    · rw [show (-(k : Int) - ((c.log2 : Int) - 52)).toNat = 0 by omega, Nat.shiftLeft_zero, show ((c.log2 : Int) - 52 - -(k : Int)).toNat = k - (52 - c.log2) by omega]
      have e : c * 2 ^ k = (c * 2 ^ (52 - c.log2)) * 2 ^ (k - (52 - c.log2)) := by rw [Nat.mul_assoc, ← Nat.pow_add, show 52 - c.log2 + (k - (52 - c.log2)) = k by omega]
      rw [e]
      exact cut_even_exact _ _ _ (Nat.mul_pos h0 (Nat.pow_pos (by decide)))
  rw [hcut]
  unfold Format.word
  simp only [Bool.false_eq_true, if_false]
  apply Nat.min_eq_left
  have : c * 2 ^ (52 - c.log2) < 2 ^ 53 := by
    have h3 := Nat.lt_log2_self (n := c)
    have : c * 2 ^ (52 - c.log2) < 2 ^ (c.log2 + 1) * 2 ^ (52 - c.log2) := Nat.mul_lt_mul_of_pos_right h3 (Nat.pow_pos (by decide))
    rw [← Nat.pow_add, show c.log2 + 1 + (52 - c.log2) = 53 by omega] at this
    exact this
  omega
theorem nearest_zero (k : Nat) : double.nearest false (0 * 2 ^ k) (-(k : Int)) = 0 := by
  rw [Nat.zero_mul]; rfl
theorem nearest_scale (c k : Nat) (h : c < 2 ^ 53) (hk : k ≤ 1074) : double.nearest false (c * 2 ^ k) (-(k : Int)) = fb c := by
  rw [fb_eq]
  by_cases h0 : c = 0
  · subst h0; rw [nearest_zero]; rfl
  · rw [nearest_pos c (by omega) h k hk]
    have := nearest_pos c (by omega) h 0 (by omega)
    rw [Nat.pow_zero, Nat.mul_one] at this
    exact this.symm
theorem fb_pos (c : Nat) (h0 : 0 < c) (h : c < 2 ^ 53) : fb c = (c.log2 + 1022) * 2 ^ 52 + c * 2 ^ (52 - c.log2) := by
  rw [← nearest_scale c 0 h (by omega), nearest_pos c h0 h 0 (by omega)]
theorem read_fb (n : Nat) (h : n < 2 ^ 53) : double.read (fb n) = .number false (n * 2 ^ kk n) (-(kk n : Int)) := by
  by_cases h0 : n = 0
  · subst h0; decide +kernel
  have hl := log2_lt53 (show 0 < n by omega) h
  have e := fb_pos n (by omega) h
  have h2 := Nat.log2_self_le (n := n) h0
  have h3 := Nat.lt_log2_self (n := n)
  obtain ⟨m, hm⟩ : ∃ m, m = n * 2 ^ (52 - n.log2) := ⟨_, rfl⟩
  have hm1 : 2 ^ 52 ≤ m := by
    have : 2 ^ n.log2 * 2 ^ (52 - n.log2) ≤ n * 2 ^ (52 - n.log2) := Nat.mul_le_mul_right _ h2
    rw [← Nat.pow_add, show n.log2 + (52 - n.log2) = 52 by omega] at this
    omega
  have hm2 : m < 2 ^ 53 := by
    have : n * 2 ^ (52 - n.log2) < 2 ^ (n.log2 + 1) * 2 ^ (52 - n.log2) := Nat.mul_lt_mul_of_pos_right h3 (Nat.pow_pos (by decide))
    rw [← Nat.pow_add, show n.log2 + 1 + (52 - n.log2) = 53 by omega] at this
    omega
  rw [← hm] at e
  have hk : kk n = 52 - n.log2 := by unfold kk; rw [if_neg h0]
  rw [hk, ← hm]
  generalize n.log2 = L at *
  have hs : double.signWeight = 2 ^ 63 := by decide
  have hlp : double.leastPlace = -1074 := by decide
  have hbi : double.binade = 2 ^ 52 := by decide
  have hin : double.infRung = 2047 * 2 ^ 52 := by decide
  unfold Format.read
  rw [hs, hlp, hbi, hin, e]
  have d1 : ((L + 1022) * 2 ^ 52 + m) / 2 ^ 63 = 0 := by omega
  have d2 : ((L + 1022) * 2 ^ 52 + m) % 2 ^ 63 = (L + 1022) * 2 ^ 52 + m := by omega
  have d3 : ((L + 1022) * 2 ^ 52 + m) % 2 ^ 52 = m - 2 ^ 52 := by omega
  have d4 : ((L + 1022) * 2 ^ 52 + m) / 2 ^ 52 = L + 1023 := by omega
  simp only [d1, d2, d3, d4]
  rw [if_neg (by omega), if_pos (by omega)]
  rw [show 2 ^ 52 + (m - 2 ^ 52) = m by omega, show (-1074 : Int) + ((L + 1023 - 1 : Nat) : Int) = -((52 - L : Nat) : Int) by omega]
  rfl
theorem kk_le (n : Nat) : kk n ≤ 1074 := by unfold kk; split <;> omega
theorem add_fb (a b : Nat) (h : a + b < 2 ^ 53) : floatBits .add .f64 (fb a) (fb b) = some (fb (a + b)) := by
  show double.add (fb a) (fb b) = _
  unfold Format.add
  rw [read_fb a (by omega), read_fb b (by omega)]
  have ha := kk_le a
  have hb := kk_le b
  generalize kk a = i at *
  generalize kk b = j at *
  obtain ⟨K, hK⟩ : ∃ K, K = max i j := ⟨_, rfl⟩
  have hbase : min (-(i : Int)) (-(j : Int)) = -(K : Int) := by omega
  unfold Datum.sum
  simp only
  rw [hbase]
  have s1 : signed false (a * 2 ^ i) (-(i : Int) - -(K : Int)).toNat = ((a * 2 ^ K : Nat) : Int) := by
    unfold signed
    simp only [Bool.false_eq_true, if_false]
    rw [Nat.shiftLeft_eq, Nat.mul_assoc, ← Nat.pow_add, show i + (-(i : Int) - -(K : Int)).toNat = K by omega]
  have s2 : signed false (b * 2 ^ j) (-(j : Int) - -(K : Int)).toNat = ((b * 2 ^ K : Nat) : Int) := by
    unfold signed
    simp only [Bool.false_eq_true, if_false]
    rw [Nat.shiftLeft_eq, Nat.mul_assoc, ← Nat.pow_add, show j + (-(j : Int) - -(K : Int)).toNat = K by omega]
  rw [s1, s2]
  have e : ((a * 2 ^ K : Nat) : Int) + ((b * 2 ^ K : Nat) : Int) = (((a + b) * 2 ^ K : Nat) : Int) := by rw [Nat.add_mul]; omega
  rw [e, Int.natAbs_natCast]
  have hneg : (if (((a + b) * 2 ^ K : Nat) : Int) = 0 then false && false else decide ((((a + b) * 2 ^ K : Nat) : Int) < 0)) = false := by
    split
    · rfl
    · simp only [decide_eq_false_iff_not]; omega
  rw [hneg]
  show some (double.nearest false ((a + b) * 2 ^ K) (-(K : Int))) = _
  rw [nearest_scale _ _ h (by omega)]
theorem order_fb (a b : Nat) (ha : a < 2 ^ 53) (hb : b < 2 ^ 53) : double.order (fb a) (fb b) = some (compare a b) := by
  unfold Format.order
  rw [read_fb a ha, read_fb b hb]
  generalize kk a = i
  generalize kk b = j
  obtain ⟨K, hK⟩ : ∃ K, K = max i j := ⟨_, rfl⟩
  have hbase : min (-(i : Int)) (-(j : Int)) = -(K : Int) := by omega
  unfold Datum.order
  simp only
  rw [hbase]
  have s1 : signed false (a * 2 ^ i) (-(i : Int) - -(K : Int)).toNat = ((a * 2 ^ K : Nat) : Int) := by
    unfold signed
    simp only [Bool.false_eq_true, if_false]
    rw [Nat.shiftLeft_eq, Nat.mul_assoc, ← Nat.pow_add, show i + (-(i : Int) - -(K : Int)).toNat = K by omega]
  have s2 : signed false (b * 2 ^ j) (-(j : Int) - -(K : Int)).toNat = ((b * 2 ^ K : Nat) : Int) := by
    unfold signed
    simp only [Bool.false_eq_true, if_false]
    rw [Nat.shiftLeft_eq, Nat.mul_assoc, ← Nat.pow_add, show j + (-(j : Int) - -(K : Int)).toNat = K by omega]
  rw [s1, s2]
  congr 1
  have hp : 0 < 2 ^ K := Nat.pow_pos (by decide)
  rcases Nat.lt_trichotomy a b with h | h | h
  · rw [Nat.compare_eq_lt.2 h]
    have : a * 2 ^ K < b * 2 ^ K := Nat.mul_lt_mul_of_pos_right h hp
    exact Int.compare_eq_lt.2 (by omega)
  · subst h
    rw [Nat.compare_eq_eq.2 rfl]
    exact Int.compare_eq_eq.2 rfl
  · rw [Nat.compare_eq_gt.2 h]
    have : b * 2 ^ K < a * 2 ^ K := Nat.mul_lt_mul_of_pos_right h hp
    exact Int.compare_eq_gt.2 (by omega)
theorem cut_zero_exact (neg : Bool) (c k : Nat) : Toward.zero.cut neg (c * 2 ^ k) k = c := by
  unfold Toward.cut
  by_cases h0 : c = 0
  · subst h0; simp
  have hl := log2_scale c k (by omega)
  rw [hl, Nat.min_eq_left (by omega), Nat.one_shiftLeft]
  have hp : 0 < 2 ^ k := Nat.pow_pos (by decide)
  simp only
  rw [Nat.mul_div_cancel _ hp]
  simp
theorem integral_fb (n : Nat) (h : n < 2 ^ 53) : (FloatKind.f64.decode (fb n)).integral .zero = .number false n 0 := by
  show (double.read (fb n)).integral .zero = _
  rw [read_fb n h]
  unfold Datum.integral
  simp only
  rw [show (-(kk n : Int)).toNat = 0 by omega, Nat.shiftLeft_zero, show (-(-(kk n : Int))).toNat = kk n by omega, cut_zero_exact]
theorem toInt_fb (n : Nat) (h : n < 2 ^ 53) : floatToIntVal .f64 (fb n) .i64 = some (n : Int) := by
  unfold floatToIntVal Datum.toInt
  rw [integral_fb n h]
  have e : signed false n 0 = (n : Int) := by unfold signed; simp
  simp only [e]
  rw [if_pos]
  have h1 : IntKind.i64.min = -9223372036854775808 := by decide
  have h2 : IntKind.i64.max = 9223372036854775807 := by decide
  rw [h1, h2]; omega
theorem trunc_fb (n : Nat) (h : n < 2 ^ 53) : FloatKind.f64.encode ((FloatKind.f64.decode (fb n)).integral .zero) = fb n := by
  rw [integral_fb n h, fb_eq]; rfl
theorem nan_fb (n : Nat) (h : n < 2 ^ 53) : (FloatKind.f64.decode (fb n)).isNaN = false := by
  show (double.read (fb n)).isNaN = false
  rw [read_fb n h]; rfl
theorem fok_add (a b : Nat) (h : a + b < 2 ^ 53) : 1 ≤ fok (floatBits .add .f64 (fb a) (fb b)) := by rw [add_fb a b h]; exact Nat.le_refl 1
theorem getD_add (a b : Nat) (h : a + b < 2 ^ 53) : (floatBits .add .f64 (fb a) (fb b)).getD 0 = fb (a + b) := by rw [add_fb a b h]; rfl
theorem fok_int (n : Nat) (h : n < 2 ^ 53) : 1 ≤ fok (floatToIntVal .f64 (fb n) .i64) := by rw [toInt_fb n h]; exact Nat.le_refl 1
theorem getD_int (n : Nat) (h : n < 2 ^ 53) : (floatToIntVal .f64 (fb n) .i64).getD 0 = (n : Int) := by rw [toInt_fb n h]; rfl
theorem truncB_fb (n : Nat) (h : n < 2 ^ 53) : truncB (fb n) = fb n := trunc_fb n h
theorem nanN_fb (n : Nat) (h : n < 2 ^ 53) : nanN (fb n) ≤ 0 := by unfold nanN; rw [nan_fb n h]; exact Nat.le_refl 0
theorem ord_fb (a b : Nat) (ha : a < 2 ^ 53) (hb : b < 2 ^ 53) : Ieee.Format.order (FloatKind.format FloatKind.f64) (fb a) (fb b) = some (compare a b) := order_fb a b ha hb
theorem ge_fb (a b : Nat) (ha : a < 2 ^ 53) (h : b ≤ a) : (Ieee.Format.order (FloatKind.format FloatKind.f64) (fb a) (fb b) == some Ordering.gt || Ieee.Format.order (FloatKind.format FloatKind.f64) (fb a) (fb b) == some Ordering.eq) = true := by
  rw [ord_fb a b ha (by omega)]
  rcases Nat.lt_or_eq_of_le h with h | h
  · rw [Nat.compare_eq_gt.2 h]; rfl
  · rw [Nat.compare_eq_eq.2 h.symm]; rfl
theorem le_fb (a b : Nat) (hb : b < 2 ^ 53) (h : a ≤ b) : (Ieee.Format.order (FloatKind.format FloatKind.f64) (fb a) (fb b) == some Ordering.lt || Ieee.Format.order (FloatKind.format FloatKind.f64) (fb a) (fb b) == some Ordering.eq) = true := by
  rw [ord_fb a b (by omega) hb]
  rcases Nat.lt_or_eq_of_le h with h | h
  · rw [Nat.compare_eq_lt.2 h]; rfl
  · rw [Nat.compare_eq_eq.2 h]; rfl
theorem eq_fb (a b : Nat) (ha : a < 2 ^ 53) (hb : b < 2 ^ 53) : (Ieee.Format.order (FloatKind.format FloatKind.f64) (fb a) (fb b) == some Ordering.eq) = decide (a = b) := by
  rw [ord_fb a b ha hb]
  rcases Nat.lt_trichotomy a b with h | h | h
  · rw [Nat.compare_eq_lt.2 h, decide_eq_false (by omega)]; rfl
  · rw [Nat.compare_eq_eq.2 h, decide_eq_true h]; rfl
  · rw [Nat.compare_eq_gt.2 h, decide_eq_false (by omega)]; rfl
theorem fb_lit0 : fb 0 = 0 := by decide +kernel
end Go.Proofs.YtdfbcdgneboilaaDoor.Ab
