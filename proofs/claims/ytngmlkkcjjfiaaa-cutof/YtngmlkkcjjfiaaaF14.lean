/- Own: any float, held against whole numbers (no statement is proved here). -/
import Derived.Test.YtngmlkkcjjfiaaaF0
namespace Go.Proofs.Ytngmlkkcjjfiaaa.Ab
open Go.Proofs
open Ieee (double Format Datum Toward signed)
set_option linter.unusedSimpArgs false
set_option linter.unusedVariables false
/-- How fine the least unit is. -/
def eK : Nat := 1074
theorem eK_eq : eK = 1074 := rfl
theorem read_place {x : Nat} {s : Bool} {m : Nat} {e : Int} (h : double.read x = .number s m e) : -1074 ≤ e := by
  have hlp : double.leastPlace = -1074 := by decide
  unfold Format.read at h
  simp only at h
  rw [hlp] at h
  split at h
  · cases h; exact Int.le_refl _
  · split at h
    · cases h; omega
    · split at h <;> cases h
theorem cmp_scale (a b : Int) (k : Nat) : compare (a * 2 ^ k) (b * 2 ^ k) = compare a b := by
  have hp : (0 : Int) < 2 ^ k := Int.pow_pos (by decide)
  rcases Int.lt_trichotomy a b with h | h | h
  · rw [Int.compare_eq_lt.2 h, Int.compare_eq_lt]; exact Int.mul_lt_mul_of_pos_right h hp
  · subst h; rw [Int.compare_eq_eq.2 rfl, Int.compare_eq_eq.2 rfl]
  · rw [Int.compare_eq_gt.2 h, Int.compare_eq_gt]; exact Int.mul_lt_mul_of_pos_right h hp
theorem signed_shift (s : Bool) (m a b : Nat) : signed s m (a + b) = signed s m a * 2 ^ b := by
  unfold signed
  have e : ((m <<< (a + b) : Nat) : Int) = ((m <<< a : Nat) : Int) * 2 ^ b := by
    rw [Nat.shiftLeft_eq, Nat.shiftLeft_eq, Nat.pow_add, ← Nat.mul_assoc]
    simp
  cases s
  · simp only [Bool.false_eq_true, if_false]; exact e
  · simp only [if_true]; rw [e, Int.neg_mul]
/-- The order of two finite ones, all told in least units. -/
theorem order_num (s t : Bool) (m n : Nat) (i j : Int) (hi : -1074 ≤ i) (hj : -1074 ≤ j) : Datum.order (.number s m i) (.number t n j) = some (compare (signed s m (i + (eK : Int)).toNat) (signed t n (j + (eK : Int)).toNat)) := by
  have hK := eK_eq
  unfold Datum.order
  simp only
  obtain ⟨b, hb⟩ : ∃ b : Nat, min i j = (b : Int) - (eK : Int) := ⟨(min i j + (eK : Int)).toNat, by omega⟩
  rw [hb]
  have e1 : (i + (eK : Int)).toNat = (i - ((b : Int) - (eK : Int))).toNat + b := by omega
  have e2 : (j + (eK : Int)).toNat = (j - ((b : Int) - (eK : Int))).toNat + b := by omega
  rw [e1, e2, signed_shift, signed_shift, cmp_scale]
theorem signed_fb (n k : Nat) (hk : k ≤ 1074) : signed false (n * 2 ^ k) (-(k : Int) + (eK : Int)).toNat = (n : Int) * 2 ^ eK := by
  have hK := eK_eq
  unfold signed
  simp only [Bool.false_eq_true, if_false]
  rw [Nat.shiftLeft_eq, Nat.mul_assoc, ← Nat.pow_add, show k + (-(k : Int) + (eK : Int)).toNat = eK by omega]
  simp
theorem order_x (x : Nat) {s : Bool} {m : Nat} {e : Int} (h : double.read x = .number s m e) (n : Nat) (hn : n < 2 ^ 53) : double.order x (fb n) = some (compare (signed s m (e + (eK : Int)).toNat) ((n : Int) * 2 ^ eK)) := by
  unfold Format.order
  rw [h, read_fb n hn, order_num _ _ _ _ _ _ (read_place h) (by have := kk_le n; omega), signed_fb n _ (kk_le n)]
theorem x_order (x : Nat) {s : Bool} {m : Nat} {e : Int} (h : double.read x = .number s m e) (n : Nat) (hn : n < 2 ^ 53) : double.order (fb n) x = some (compare ((n : Int) * 2 ^ eK) (signed s m (e + (eK : Int)).toNat)) := by
  unfold Format.order
  rw [h, read_fb n hn, order_num _ _ _ _ _ _ (by have := kk_le n; omega) (read_place h), signed_fb n _ (kk_le n)]
/-- The whole part. -/
theorem cut_floor (m : Nat) (e : Int) (he : -1074 ≤ e) (s : Bool) (T : Nat) (hT : T = Toward.zero.cut s (m <<< e.toNat) (-e).toNat) : T * 2 ^ eK ≤ m * 2 ^ (e + (eK : Int)).toNat ∧ m * 2 ^ (e + (eK : Int)).toNat < (T + 1) * 2 ^ eK := by
  have hK := eK_eq
  by_cases h0 : 0 ≤ e
  · rw [show (-e).toNat = 0 by omega] at hT
    have : T = m * 2 ^ e.toNat := by
      rw [hT]; unfold Toward.cut; simp [Nat.mod_one, Nat.shiftLeft_eq]
    have e2 : m * 2 ^ (e + (eK : Int)).toNat = T * 2 ^ eK := by rw [this, Nat.mul_assoc, ← Nat.pow_add, show e.toNat + eK = (e + (eK : Int)).toNat by omega]
    rw [e2]
    exact ⟨Nat.le_refl _, Nat.mul_lt_mul_of_pos_right (by omega) (Nat.pow_pos (by decide))⟩
  · rw [show e.toNat = 0 by omega, Nat.shiftLeft_zero] at hT
    obtain ⟨c, hc⟩ : ∃ c : Nat, c = (-e).toNat := ⟨_, rfl⟩
    rw [← hc] at hT
    have hr : (e + (eK : Int)).toNat = eK - c := by omega
    have hc1 : c ≤ eK := by omega
    have hT2 : T = m / 2 ^ min c (m.log2 + 2) := by
      rw [hT]; unfold Toward.cut; simp [Nat.one_shiftLeft]
    have hp : 0 < 2 ^ (eK - c) := Nat.pow_pos (by decide)
    have hsp : 2 ^ eK = 2 ^ c * 2 ^ (eK - c) := by rw [← Nat.pow_add, show c + (eK - c) = eK by omega]
    have key : T * 2 ^ c ≤ m ∧ m < (T + 1) * 2 ^ c := by
      by_cases hcl : c ≤ m.log2 + 2
      · rw [Nat.min_eq_left hcl] at hT2
        have hpc : 0 < 2 ^ c := Nat.pow_pos (by decide)
        rw [hT2]
        refine ⟨Nat.div_mul_le_self _ _, ?_⟩
        have := Nat.lt_mul_div_succ m hpc
        rw [Nat.mul_comm] at this
        exact this
      · rw [Nat.min_eq_right (by omega)] at hT2
        have h3 := Nat.lt_log2_self (n := m)
        have h4 : m < 2 ^ (m.log2 + 2) := Nat.lt_of_lt_of_le h3 (Nat.pow_le_pow_right (by decide) (by omega))
        have h5 : m < 2 ^ c := Nat.lt_of_lt_of_le h4 (Nat.pow_le_pow_right (by decide) (by omega))
        rw [Nat.div_eq_of_lt h4] at hT2
        rw [hT2]
        omega
    rw [hr, hsp, ← Nat.mul_assoc, ← Nat.mul_assoc]
    exact ⟨Nat.mul_le_mul_right _ key.1, Nat.mul_lt_mul_of_pos_right key.2 hp⟩
/-- What a float is, of whole numbers up to so many: one of them, or none. -/
structure IsNum (x m n : Nat) : Prop where
  le : n ≤ m
  ge0 : (double.order x 0 == some Ordering.gt || double.order x 0 == some Ordering.eq) = true
  leM : (double.order x (fb m) == some Ordering.lt || double.order x (fb m) == some Ordering.eq) = true
  nan : nanN x ≤ 0
  eqT : (double.order x (truncB x) == some Ordering.eq) = true
  int : floatToIntVal .f64 x .i64 = some (n : Int)
  whole : ∀ i, i ≤ m → (double.order (fb i) x == some Ordering.eq) = decide (i = n)
inductive NoNum (x m : Nat) : Prop where
  | low (h : (double.order x 0 == some Ordering.gt || double.order x 0 == some Ordering.eq) = false) (hw : ∀ i, i ≤ m → (double.order (fb i) x == some Ordering.eq) = false) : NoNum x m
  | high (h : (double.order x 0 == some Ordering.gt || double.order x 0 == some Ordering.eq) = true) (h2 : (double.order x (fb m) == some Ordering.lt || double.order x (fb m) == some Ordering.eq) = false) (hw : ∀ i, i ≤ m → (double.order (fb i) x == some Ordering.eq) = false) : NoNum x m
  | broken (h : (double.order x 0 == some Ordering.gt || double.order x 0 == some Ordering.eq) = true) (h2 : (double.order x (fb m) == some Ordering.lt || double.order x (fb m) == some Ordering.eq) = true) (hn : nanN x ≤ 0) (h3 : (double.order x (truncB x) == some Ordering.eq) = false) (hw : ∀ i, i ≤ m → (double.order (fb i) x == some Ordering.eq) = false) : NoNum x m
theorem nan_number {x : Nat} {s : Bool} {m : Nat} {e : Int} (h : double.read x = .number s m e) : nanN x ≤ 0 := by
  unfold nanN
  show (if (double.read x).isNaN = true then 1 else 0) ≤ 0
  rw [h]; exact Nat.le_refl 0
theorem num_or (x M : Nat) (hM : M < 2 ^ 40) : (∃ n, IsNum x M n) ∨ NoNum x M := by
  have h00 : ∀ {s m e}, double.read x = .number s m e → double.order x 0 = some (compare (signed s m (e + (eK : Int)).toNat) 0) := fun {s m e} h => by
    have := order_x x h 0 (by omega)
    rw [fb_lit0] at this
    rw [this]; simp
  cases hd : double.read x with
  | nan s t =>
    have ho : ∀ y, double.order x y = none := fun y => by unfold Format.order; rw [hd]; rfl
    have ho2 : ∀ i, i ≤ M → double.order (fb i) x = none := fun i hi => by unfold Format.order; rw [hd, read_fb i (by omega)]; rfl
    exact .inr (.low (by rw [ho]; rfl) fun i hi => by rw [ho2 i hi]; rfl)
  | infinity s =>
    have ho : ∀ i, i ≤ M → double.order x (fb i) = some (if s then .lt else .gt) := fun i hi => by unfold Format.order; rw [hd, read_fb i (by omega)]; rfl
    have ho2 : ∀ i, i ≤ M → double.order (fb i) x = some (if s then .gt else .lt) := fun i hi => by unfold Format.order; rw [hd, read_fb i (by omega)]; rfl
    have o0 := ho 0 (by omega)
    rw [fb_lit0] at o0
    have hw : ∀ i, i ≤ M → (double.order (fb i) x == some Ordering.eq) = false := fun i hi => by rw [ho2 i hi]; cases s <;> rfl
    cases s with
    | true => exact .inr (.low (by rw [o0]; rfl) hw)
    | false => exact .inr (.high (by rw [o0]; rfl) (by rw [ho M (Nat.le_refl _)]; rfl) hw)
  | number s m e =>
    have he := read_place hd
    have hox := fun n hn => order_x x hd n hn
    have hxo := fun n hn => x_order x hd n hn
    have o0 := h00 hd
    have hp : (0 : Int) < 2 ^ eK := Int.pow_pos (by decide)
    obtain ⟨T, hT⟩ : ∃ T, T = Toward.zero.cut s (m <<< e.toNat) (-e).toNat := ⟨_, rfl⟩
    have hfl := cut_floor m e he s T hT
    have hint : (FloatKind.f64.decode x).integral .zero = .number s T 0 := by
      show (double.read x).integral .zero = _
      rw [hd]; unfold Datum.integral; simp only [hT]
    have hV : signed s m (e + (eK : Int)).toNat = if s then -((m * 2 ^ (e + (eK : Int)).toNat : Nat) : Int) else ((m * 2 ^ (e + (eK : Int)).toNat : Nat) : Int) := by
      unfold signed; rw [Nat.shiftLeft_eq]
    generalize hA : m * 2 ^ (e + (eK : Int)).toNat = A at *
    by_cases hs : s = true ∧ 0 < A
    · obtain ⟨rfl, h0⟩ := hs
      simp only [if_true] at hV
      rw [hV] at o0 hox hxo
      refine .inr (.low (by rw [o0, Int.compare_eq_lt.2 (by omega)]; rfl) fun i hi => ?_)
      have : (0 : Int) ≤ (i : Int) * 2 ^ eK := Int.mul_nonneg (by omega) (by omega)
      rw [hxo i (by omega), Int.compare_eq_gt.2 (by omega)]; rfl
    have hV2 : signed s m (e + (eK : Int)).toNat = (A : Int) := by
      rw [hV]
      cases s
      · rfl
      · have : A = 0 := by have : ¬ 0 < A := fun h => hs ⟨rfl, h⟩; omega
        rw [this]; rfl
    rw [hV2] at o0 hox hxo
    have ge0 : (double.order x 0 == some Ordering.gt || double.order x 0 == some Ordering.eq) = true := by
      rw [o0]
      rcases Nat.eq_zero_or_pos A with h | h
      · rw [Int.compare_eq_eq.2 (by omega)]; rfl
      · rw [Int.compare_eq_gt.2 (by omega)]; rfl
    have cast2 : ∀ i : Nat, ((i : Int) * 2 ^ eK) = ((i * 2 ^ eK : Nat) : Int) := fun i => by simp
    have hpN : 0 < 2 ^ eK := Nat.pow_pos (by decide)
    by_cases hle : A ≤ M * 2 ^ eK
    case neg =>
      refine .inr (.high ge0 ?_ fun i hi => ?_)
      · rw [hox M (by omega), cast2, Int.compare_eq_gt.2 (by omega)]; rfl
      · have : i * 2 ^ eK ≤ M * 2 ^ eK := Nat.mul_le_mul_right _ hi
        rw [hxo i (by omega), cast2, Int.compare_eq_lt.2 (by omega)]; rfl
    have leM : (double.order x (fb M) == some Ordering.lt || double.order x (fb M) == some Ordering.eq) = true := by
      rw [hox M (by omega), cast2]
      rcases Nat.lt_or_eq_of_le hle with h | h
      · rw [Int.compare_eq_lt.2 (by omega)]; rfl
      · rw [Int.compare_eq_eq.2 (by omega)]; rfl
    have hTM : T ≤ M := by
      have : T * 2 ^ eK ≤ M * 2 ^ eK := Nat.le_trans hfl.1 hle
      exact Nat.le_of_mul_le_mul_right this hpN
    have htr : double.order x (truncB x) = some (compare (A : Int) ((T : Int) * 2 ^ eK)) := by
      unfold truncB
      rw [hint]
      by_cases hs1 : s = true
      · have hA0 : A = 0 := by have : ¬ 0 < A := fun h => hs ⟨hs1, h⟩; omega
        have hT0 : T = 0 := by
          have := hfl.1
          rw [hA0] at this
          rcases Nat.eq_zero_or_pos T with h | h
          · exact h
          · have := Nat.mul_pos h hpN; omega
        subst hs1 hT0
        rw [hA0]
        show double.order x (double.nearest true 0 0) = _
        have hr : double.read (double.nearest true 0 0) = .number true 0 (-1074) := by decide +kernel
        unfold Format.order
        rw [hd, hr, order_num _ _ _ _ _ _ he (by omega), hV2, hA0, show signed true 0 (-1074 + (eK : Int)).toNat = 0 by unfold signed; simp]
        simp
      · have hs2 : s = false := by simpa using hs1
        subst hs2
        show double.order x (double.nearest false T 0) = _
        rw [← fb_eq, hox T (by omega)]
    have htoI : floatToIntVal .f64 x .i64 = some (T : Int) := by
      unfold floatToIntVal Datum.toInt
      rw [hint]
      have e1 : signed s T 0 = (T : Int) := by
        unfold signed
        cases s
        · simp
        · have hA0 : A = 0 := by have : ¬ 0 < A := fun h => hs ⟨rfl, h⟩; omega
          have hT0 : T = 0 := by
            have := hfl.1
            rw [hA0] at this
            rcases Nat.eq_zero_or_pos T with h | h
            · exact h
            · have := Nat.mul_pos h hpN; omega
          rw [hT0]; rfl
      simp only [e1]
      rw [if_pos]
      have h1 : IntKind.i64.min = -9223372036854775808 := by decide
      have h2 : IntKind.i64.max = 9223372036854775807 := by decide
      rw [h1, h2]; omega
    by_cases heq : A = T * 2 ^ eK
    · refine .inl ⟨T, hTM, ge0, leM, nan_number hd, ?_, htoI, fun i hi => ?_⟩
      · rw [htr, cast2, Int.compare_eq_eq.2 (by omega)]; rfl
      · rw [hxo i (by omega), cast2, heq]
        rcases Nat.lt_trichotomy i T with h | h | h
        · have : i * 2 ^ eK < T * 2 ^ eK := Nat.mul_lt_mul_of_pos_right h hpN
          rw [Int.compare_eq_lt.2 (by omega), decide_eq_false (by omega)]; rfl
        · rw [h, Int.compare_eq_eq.2 rfl, decide_eq_true rfl]; rfl
        · have : T * 2 ^ eK < i * 2 ^ eK := Nat.mul_lt_mul_of_pos_right h hpN
          rw [Int.compare_eq_gt.2 (by omega), decide_eq_false (by omega)]; rfl
    · refine .inr (.broken ge0 leM (nan_number hd) ?_ fun i hi => ?_)
      · have := hfl.1
        rw [htr, cast2, Int.compare_eq_gt.2 (by omega)]; rfl
      · rw [hxo i (by omega), cast2]
        rcases Nat.lt_or_ge T i with h | h
        · have : (T + 1) * 2 ^ eK ≤ i * 2 ^ eK := Nat.mul_le_mul_right _ h
          have := hfl.2
          rw [Int.compare_eq_gt.2 (by omega)]; rfl
        · have : i * 2 ^ eK ≤ T * 2 ^ eK := Nat.mul_le_mul_right _ h
          have := hfl.1
          rw [Int.compare_eq_lt.2 (by omega)]; rfl
end Go.Proofs.Ytngmlkkcjjfiaaa.Ab
