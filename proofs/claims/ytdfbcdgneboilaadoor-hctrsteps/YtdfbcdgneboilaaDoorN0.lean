/- Own: numbers in bytes, the lowest first (no statement is proved here). -/
import Derived.Test.YtdfbcdgneboilaaDoorO0
namespace Go.Proofs.YtdfbcdgneboilaaDoor.Ab
/-- A loop, begun in a state that is said otherwise. -/
theorem AG.indE {P : Program} {c : Cx P} {todo : List Item} {st : St} {α : Type} (μ : α → Nat) (S : α → St) (x : α) (h0 : st = S x) (h : ∀ x, (∀ y, μ y < μ x → AG c todo (S y)) → AG c todo (S x)) : AG c todo st :=
  h0 ▸ AG.ind μ S h x
def ari (n : Nat) (s : Nat → Int) : List Value := (List.range n).map fun i => .int .i64 (s i)
theorem ari_congr {n : Nat} {s t : Nat → Int} (h : ∀ i, i < n → s i = t i) : ari n s = ari n t := by
  unfold ari
  exact List.map_congr_left fun i hi => by rw [h i (by simpa using hi)]
def upd (f : Nat → Int) (i : Nat) (v : Int) (j : Nat) : Int := if j = i then v else f j
theorem get_arK (k : IntKind) (n : Nat) (f : Nat → Int) (i : Int) (h : 0 ≤ i) (h' : i < n) : (List.map (fun j => Value.int k (f j)) (List.range n)).getD (0 + i.toNat * 1) undef = .int k (f i.toNat) := by
  have hl : i.toNat < n := by omega
  simp [List.getD, List.getElem?_range hl]
theorem put_arK (k : IntKind) (n : Nat) (f : Nat → Int) (i : Int) (h : 0 ≤ i) (h' : i < n) (v : Int) : putAt (List.map (fun j => Value.int k (f j)) (List.range n)) (0 + i.toNat * 1) (Value.int k v).cells.toList = List.map (fun j => Value.int k (upd f i.toNat v j)) (List.range n) := by
  have hl : i.toNat < n := by omega
  have e : (Value.int k v).cells.toList = [Value.int k v] := rfl
  rw [e, Nat.zero_add, Nat.mul_one, putAt_eq _ _ _ (by simp; omega)]
  apply List.ext_getElem?
  intro j
  simp only [List.length_cons, List.length_nil, Nat.zero_add]
  by_cases h1 : j < i.toNat
  · rw [List.append_assoc, List.getElem?_append_left (by simp; omega), List.getElem?_take, if_pos h1]
    simp only [List.getElem?_map, List.getElem?_range (show j < n by omega), Option.map_some, upd]
    rw [if_neg (by omega)]
  · by_cases h2 : j = i.toNat
    · rw [List.append_assoc, List.getElem?_append_right (by simp; omega)]
      simp only [List.length_take, List.length_map, List.length_range, h2, List.getElem?_map, List.getElem?_range hl, Option.map_some, upd, if_true]
      rw [show i.toNat - min i.toNat n = 0 by omega]
      rfl
    · rw [List.getElem?_append_right (by simp; omega), List.getElem?_drop]
      simp only [List.length_append, List.length_take, List.length_map, List.length_range, List.length_cons, List.length_nil]
      rw [show i.toNat + 1 + (j - (min i.toNat n + (0 + 1))) = j by omega]
      by_cases h3 : j < n
      · simp only [List.getElem?_map, List.getElem?_range h3, Option.map_some, upd]
        rw [if_neg h2]
      · rw [List.getElem?_eq_none (by simp; omega), List.getElem?_eq_none (by simp; omega)]
theorem get_ar8 (n : Nat) (f : Nat → Int) (i : Int) (h : 0 ≤ i) (h' : i < n) : (ar8 n f).getD (0 + i.toNat * 1) undef = .int .u8 (f i.toNat) := get_arK _ n f i h h'
theorem get_ar32 (n : Nat) (f : Nat → Int) (i : Int) (h : 0 ≤ i) (h' : i < n) : (ar32 n f).getD (0 + i.toNat * 1) undef = .int .u32 (f i.toNat) := get_arK _ n f i h h'
theorem get_ar64 (n : Nat) (f : Nat → Int) (i : Int) (h : 0 ≤ i) (h' : i < n) : (ar64 n f).getD (0 + i.toNat * 1) undef = .int .u64 (f i.toNat) := get_arK _ n f i h h'
theorem get_ari (n : Nat) (f : Nat → Int) (i : Int) (h : 0 ≤ i) (h' : i < n) : (ari n f).getD (0 + i.toNat * 1) undef = .int .i64 (f i.toNat) := get_arK _ n f i h h'
theorem put_ar8 (n : Nat) (f : Nat → Int) (i : Int) (h : 0 ≤ i) (h' : i < n) (v : Int) : putAt (ar8 n f) (0 + i.toNat * 1) (Value.int .u8 v).cells.toList = ar8 n (upd f i.toNat v) := put_arK _ n f i h h' v
theorem put_ar32 (n : Nat) (f : Nat → Int) (i : Int) (h : 0 ≤ i) (h' : i < n) (v : Int) : putAt (ar32 n f) (0 + i.toNat * 1) (Value.int .u32 v).cells.toList = ar32 n (upd f i.toNat v) := put_arK _ n f i h h' v
theorem put_ar64 (n : Nat) (f : Nat → Int) (i : Int) (h : 0 ≤ i) (h' : i < n) (v : Int) : putAt (ar64 n f) (0 + i.toNat * 1) (Value.int .u64 v).cells.toList = ar64 n (upd f i.toNat v) := put_arK _ n f i h h' v
theorem put_ari (n : Nat) (f : Nat → Int) (i : Int) (h : 0 ≤ i) (h' : i < n) (v : Int) : putAt (ari n f) (0 + i.toNat * 1) (Value.int .i64 v).cells.toList = ari n (upd f i.toNat v) := put_arK _ n f i h h' v
theorem ar32_succ (n : Nat) (f : Nat → Int) : ar32 n f ++ [Value.int .u32 (f n)] = ar32 (n + 1) f := by unfold ar32; rw [List.range_succ, List.map_append]; rfl
theorem ar8_succ (n : Nat) (f : Nat → Int) : ar8 n f ++ [Value.int .u8 (f n)] = ar8 (n + 1) f := by unfold ar8; rw [List.range_succ, List.map_append]; rfl
def leN : Nat → (Nat → Int) → Int
  | 0, _ => 0
  | n + 1, a => leN n a + 256 ^ n * a n
def dig (v : Int) (i : Nat) : Int := v / 256 ^ i % 256
theorem pow_pos' (n : Nat) : (0 : Int) < 256 ^ n := Int.pow_pos (by decide)
theorem leN_range (n : Nat) (a : Nat → Int) (h : ∀ i, i < n → R8 (a i)) : 0 ≤ leN n a ∧ leN n a < 256 ^ n := by
  induction n with
  | zero => simp [leN]
  | succ n ih =>
    have ih := ih fun i hi => h i (by omega)
    have ha := h n (by omega)
    have hp := pow_pos' n
    unfold leN
    have h1 : 0 ≤ 256 ^ n * a n := Int.mul_nonneg (by omega) ha.1
    have h2 : 256 ^ n * a n ≤ 256 ^ n * 255 := Int.mul_le_mul_of_nonneg_left (by have := ha.2; omega) (by omega)
    rw [Int.pow_succ]
    omega
theorem leN_congr {n : Nat} {a b : Nat → Int} (h : ∀ i, i < n → a i = b i) : leN n a = leN n b := by
  induction n with
  | zero => rfl
  | succ n ih => unfold leN; rw [ih fun i hi => h i (by omega), h n (by omega)]
theorem r8_dig (v : Int) (i : Nat) : R8 (dig v i) := by unfold dig R8; omega
theorem leN_dig (n : Nat) (v : Int) : leN n (dig v) = v % 256 ^ n := by
  induction n with
  | zero => simp [leN, Int.emod_one]
  | succ n ih =>
    have hp := pow_pos' n
    show leN n (dig v) + 256 ^ n * (v / 256 ^ n % 256) = _
    rw [ih, Int.pow_succ]
    generalize (256 : Int) ^ n = p at *
    have h1 := Int.mul_ediv_add_emod v p
    have h2 := Int.mul_ediv_add_emod (v / p) 256
    have h3 : v / (p * 256) = v / p / 256 := by rw [Int.ediv_ediv_of_nonneg (by omega)]
    have h4 := Int.mul_ediv_add_emod v (p * 256)
    rw [h3] at h4
    have h5 : p * 256 * (v / p / 256) = p * (256 * (v / p / 256)) := by rw [Int.mul_assoc]
    have h6 : p * (v / p) = p * (256 * (v / p / 256)) + p * (v / p % 256) := by rw [← Int.mul_add, h2]
    omega
theorem dig_leN (n : Nat) (a : Nat → Int) (h : ∀ i, i < n → R8 (a i)) (i : Nat) (hi : i < n) : dig (leN n a) i = a i := by
  induction n with
  | zero => omega
  | succ n ih =>
    have hn := h n (by omega)
    have hr := leN_range n a fun i hi => h i (by omega)
    have hp := pow_pos' n
    unfold leN
    by_cases hin : i = n
    · subst hin
      unfold dig
      rw [Int.add_mul_ediv_left _ _ (by omega), Int.ediv_eq_zero_of_lt hr.1 hr.2, Int.zero_add]
      have := hn.1; have := hn.2; omega
    · have hlt : i < n := by omega
      rw [← ih (fun i hi => h i (by omega)) hlt]
      unfold dig
      obtain ⟨d, rfl⟩ : ∃ d, n = i + 1 + d := ⟨n - (i + 1), by omega⟩
      have hpi := pow_pos' i
      have e : (256 : Int) ^ (i + 1 + d) * a (i + 1 + d) = 256 ^ i * (256 * (256 ^ d * a (i + 1 + d))) := by
        rw [Int.pow_add, Int.pow_succ, Int.mul_assoc, Int.mul_assoc]
      rw [e, Int.add_mul_ediv_left _ _ (by omega), Int.add_mul_emod_self_left]
theorem leN_inj (n : Nat) (a b : Nat → Int) (ha : ∀ i, i < n → R8 (a i)) (hb : ∀ i, i < n → R8 (b i)) (h : leN n a = leN n b) (i : Nat) (hi : i < n) : a i = b i := by
  rw [← dig_leN n a ha i hi, ← dig_leN n b hb i hi, h]
/-- Where the bytes above are the same, one that is less decides. -/
theorem leN_lt (n : Nat) (a b : Nat → Int) (ha : ∀ i, i < n → R8 (a i)) (hb : ∀ i, i < n → R8 (b i)) (i : Nat) (hi : i < n) (hl : a i < b i) (he : ∀ j, i < j → j < n → a j = b j) : leN n a < leN n b := by
  induction n with
  | zero => omega
  | succ n ih =>
    unfold leN
    have hra := leN_range n a fun i hi => ha i (by omega)
    have hrb := leN_range n b fun i hi => hb i (by omega)
    have hp := pow_pos' n
    by_cases hin : i = n
    · subst hin
      have : 256 ^ i * a i + 256 ^ i ≤ 256 ^ i * b i := by
        have h1 : 256 ^ i * (a i + 1) ≤ 256 ^ i * b i := Int.mul_le_mul_of_nonneg_left (by omega) (by omega)
        rw [Int.mul_add, Int.mul_one] at h1; exact h1
      omega
    · have := ih (fun i hi => ha i (by omega)) (fun i hi => hb i (by omega)) (by omega) fun j h1 h2 => he j h1 (by omega)
      rw [he n (by omega) (by omega)]
      omega
/-- A row of bytes as a number. -/
def leL : List Int → Int
  | [] => 0
  | x :: l => x + 256 * leL l
theorem leN_upd (n : Nat) (f : Nat → Int) (t : Nat) (h : t < n) (v : Int) : leN n (upd f t v) = leN n f + 256 ^ t * (v - f t) := by
  induction n with
  | zero => omega
  | succ n ih =>
    unfold leN
    by_cases ht : t = n
    · subst ht
      rw [leN_congr (a := upd f t v) (b := f) (n := t) fun i hi => by unfold upd; rw [if_neg (by omega)]]
      have : upd f t v t = v := by unfold upd; rw [if_pos rfl]
      rw [this, Int.mul_sub]; omega
    · rw [ih (by omega)]
      have : upd f t v n = f n := by unfold upd; rw [if_neg (fun e => ht e.symm)]
      rw [this]; omega
theorem leL_append (l m : List Int) : leL (l ++ m) = leL l + 256 ^ l.length * leL m := by
  induction l with
  | nil => simp [leL]
  | cons x l ih => simp only [List.cons_append, leL, ih, List.length_cons, Int.pow_succ]; rw [Int.mul_add, Int.mul_comm (256 ^ l.length) 256, Int.mul_assoc]; omega
theorem leL_nonneg (l : List Int) (h : All8 l) : 0 ≤ leL l := by
  induction l with
  | nil => exact Int.le_refl 0
  | cons x l ih =>
    have := ih fun y hy => h y (List.mem_cons_of_mem _ hy)
    have := (h x List.mem_cons_self).1
    unfold leL; omega
theorem leL_map (n : Nat) (f : Nat → Int) : leL ((List.range n).map f) = leN n f := by
  induction n with
  | zero => rfl
  | succ n ih => rw [List.range_succ, List.map_append, leL_append, ih]; simp [leL, leN]
end Go.Proofs.YtdfbcdgneboilaaDoor.Ab
