/- Own: polynomials, coefficient by coefficient (no statement is proved here). -/
import Derived.Test.YtdeobbgkfhnhlaaG7
import Derived.KernelRfl
namespace Go.Proofs.Ytdeobbgkfhnhlaa.Ab
open Go.Proofs
set_option linter.unusedSimpArgs false
set_option linter.unusedVariables false
theorem fn46 : Try.prog.funcs[46]? = some Try.f46 := by kernel_rfl
theorem fn47 : Try.prog.funcs[47]? = some Try.f47 := by kernel_rfl
def p8 (v : Int) (t j : Nat) : Int := v % 2 ^ t / 2 ^ (8 * j) % 256
theorem p8_step (v : Int) (t : Nat) (j : Nat) : p8 v (t + 1) j = if j = t / 8 then p8 v t j + 2 ^ (t % 8) * (v / 2 ^ t % 2) else p8 v t j := by
  have hp := Int.pow_pos (n := 2) (m := t) (by decide)
  have hm0 := Int.emod_nonneg v (show (2 : Int) ^ t ≠ 0 by omega)
  have hm1 := Int.emod_lt_of_pos v hp
  have hnew : v % 2 ^ (t + 1) = v % 2 ^ t + 2 ^ t * (v / 2 ^ t % 2) := by
    rw [Int.pow_succ]
    generalize (2 : Int) ^ t = p at *
    have h1 := Int.mul_ediv_add_emod v p
    have h3 : v / (p * 2) = v / p / 2 := by rw [Int.ediv_ediv_of_nonneg (by omega)]
    have h4 := Int.mul_ediv_add_emod v (p * 2)
    rw [h3] at h4
    have h2 := Int.mul_ediv_add_emod (v / p) 2
    have h5 : p * 2 * (v / p / 2) = p * (2 * (v / p / 2)) := by rw [Int.mul_assoc]
    have h6 : p * (v / p) = p * (2 * (v / p / 2)) + p * (v / p % 2) := by rw [← Int.mul_add, h2]
    omega
  have hb : v / 2 ^ t % 2 = 0 ∨ v / 2 ^ t % 2 = 1 := by omega
  generalize v / 2 ^ t % 2 = b at *
  unfold p8
  rw [hnew]
  generalize v % 2 ^ t = m at *
  have hq := Int.pow_pos (n := 2) (m := 8 * j) (by decide)
  by_cases h1 : j = t / 8
  · rw [if_pos h1]
    have e : (2 : Int) ^ t = 2 ^ (8 * j) * 2 ^ (t % 8) := by rw [← Int.pow_add, h1, Nat.div_add_mod]
    have hr : (2 : Int) ^ (t % 8) ≤ 128 := by
      have h : t % 8 < 8 := by omega
      have e2 : (128 : Int) = 2 ^ (t % 8) * 2 ^ (7 - t % 8) := by rw [← Int.pow_add, show t % 8 + (7 - t % 8) = 7 by omega]; rfl
      have h1 : (1 : Int) ≤ 2 ^ (7 - t % 8) := Int.pow_pos (n := 2) (by decide)
      have h0 : (0 : Int) ≤ 2 ^ (t % 8) := Int.le_of_lt (Int.pow_pos (by decide))
      have := Int.mul_le_mul_of_nonneg_left h1 h0
      omega
    rw [e, Int.mul_assoc, Int.add_mul_ediv_left _ _ (by omega)]
    have hmq : m / 2 ^ (8 * j) < 2 ^ (t % 8) := by
      rw [e] at hm1
      exact Int.ediv_lt_of_lt_mul hq (by rw [Int.mul_comm]; exact hm1)
    have hm2 : 0 ≤ m / 2 ^ (8 * j) := Int.ediv_nonneg hm0 (by omega)
    generalize m / 2 ^ (8 * j) = y at *
    generalize (2 : Int) ^ (t % 8) = z at *
    rcases hb with rfl | rfl <;> omega
  · rw [if_neg h1]
    by_cases h2 : t / 8 < j
    · obtain ⟨d, hd⟩ : ∃ d, 8 * j = t + 1 + d := ⟨8 * j - (t + 1), by omega⟩
      have e : (2 : Int) ^ (8 * j) = 2 ^ t * (2 * 2 ^ d) := by rw [hd, Int.pow_add, Int.pow_succ, Int.mul_assoc]
      have h3 : (1 : Int) ≤ 2 ^ d := Int.pow_pos (n := 2) (by decide)
      have h4 : 2 ^ t * 2 ≤ 2 ^ t * (2 * (2 : Int) ^ d) := Int.mul_le_mul_of_nonneg_left (by omega) (by omega)
      rw [e]
      have h5 : m + 2 ^ t * b < 2 ^ t * (2 * 2 ^ d) := by rcases hb with rfl | rfl <;> omega
      have h6 : 0 ≤ m + 2 ^ t * b := by rcases hb with rfl | rfl <;> omega
      rw [Int.ediv_eq_zero_of_lt h6 h5, Int.ediv_eq_zero_of_lt hm0 (by omega)]
    · obtain ⟨d, hd⟩ : ∃ d, t = 8 * j + (8 + d) := ⟨t - 8 * j - 8, by omega⟩
      have e : (2 : Int) ^ t * b = 2 ^ (8 * j) * (256 * (2 ^ d * b)) := by
        rw [hd, Int.pow_add, Int.pow_add, Int.mul_assoc, Int.mul_assoc]; rfl
      rw [e, Int.add_mul_ediv_left _ _ (by omega)]
      omega
/-- A polynomial's coefficients as bytes. -/
def pb (F : Nat → Bool) (k : Nat) : Int := b01 (F k)
def pE (v : E) (k : Nat) : Int := b01 (v.getLsbD k)
theorem bit_byte (v : E) (k : Nat) (hk : k < 128) : ((byt v (k / 8)).fdiv (2 ^ min (IntKind.u64.wrap (((k % 8 : Nat) : Int))).toNat 8)).tmod 2 = pE v k := by
  rw [byt_toNat v _ (by omega)]
  unfold pE b01
  rw [show v.getLsbD k = v.toNat.testBit k from rfl, Nat.testBit_eq_decide_div_mod_eq]
  generalize v.toNat = n
  have hw : (IntKind.u64.wrap (((k % 8 : Nat) : Int))).toNat = k % 8 := by rw [wrap_u64]; omega
  rw [hw, Nat.min_eq_left (by omega)]
  have e : (2 : Int) ^ (k % 8) = ((2 ^ (k % 8) : Nat) : Int) := by simp
  rw [e, Int.fdiv_eq_ediv_of_nonneg _ (Int.natCast_nonneg _), Int.tmod_eq_emod_of_nonneg (Int.ediv_nonneg (Int.natCast_nonneg _) (Int.natCast_nonneg _))]
  have e2 : 2 ^ k = 2 ^ (8 * (k / 8)) * 2 ^ (k % 8) := by rw [← Nat.pow_add, Nat.div_add_mod]
  rw [e2, ← Nat.div_div_eq_div_mul]
  generalize n / 2 ^ (8 * (k / 8)) = y
  have hr : k % 8 < 8 := by omega
  generalize k % 8 = r at *
  have key : (y % 256) / 2 ^ r % 2 = y / 2 ^ r % 2 := by
    rcases (by omega : r = 0 ∨ r = 1 ∨ r = 2 ∨ r = 3 ∨ r = 4 ∨ r = 5 ∨ r = 6 ∨ r = 7) with rfl | rfl | rfl | rfl | rfl | rfl | rfl | rfl <;> simp <;> omega
  have : (((y % 256 : Nat) : Int) / ((2 ^ r : Nat) : Int) % 2) = ((y % 256 / 2 ^ r % 2 : Nat) : Int) := by simp
  rw [this, key]
  have h01 : y / 2 ^ r % 2 = 0 ∨ y / 2 ^ r % 2 = 1 := by omega
  rcases h01 with h | h <;> rw [h] <;> rfl
theorem rep256 : List.replicate 256 (Value.int IntKind.u8 0) = ar8 256 (fun _ => 0) := by
  unfold ar8
  rw [List.map_const', List.length_range]
theorem low_e (v : E) : CallOK Try.prog (fun _ => none) 46 [.ex (.agg (ar8 16 (byt v)).toArray)] [] { val := .ex (.agg (ar8 256 (pE v)).toArray) } := by
  refine CallOK.from0 hmix Try.f46 0 fn46 (by kernel_rfl) (by kernel_rfl) (fun w ρ h1 h2 => ?_)
  refine AG.rk 8 [1, 2, 3, 4] [0, 4, 8] 9 (todo' := [.code (sub (codeOf Try.f46) [1, 1, 0, 1, 0]), .inBlock 0, .code (sub (codeOf Try.f46) [1, 1, 1])]) (st' := ⟨mkT 21 [(1, .p 0 0), (2, .p 4 0), (3, .p 8 0), (4, .ex (.int .i64 0))], [(0, .own (ar8 16 (byt v))), (4, .own (List.replicate 256 (Value.int .u8 0))), (8, .own (List.replicate 256 (Value.int .u8 0)))], 9⟩) (by kernel_rfl) (by kernel_rfl) ?_
  refine AG.rk 1 [1, 2, 3, 4] [0, 4, 8] 9 (todo' := [.code (sub (codeOf Try.f46) [1, 1, 0, 1, 0, 0]), .inLoop (sub (codeOf Try.f46) [1, 1, 0, 1, 0, 0]), .inBlock 0, .code (sub (codeOf Try.f46) [1, 1, 1])]) (st' := ⟨mkT 21 [(1, .p 0 0), (2, .p 4 0), (3, .p 8 0), (4, .ex (.int .i64 0))], [(0, .own (ar8 16 (byt v))), (4, .own (List.replicate 256 (Value.int .u8 0))), (8, .own (List.replicate 256 (Value.int .u8 0)))], 9⟩) (by kernel_rfl) (by kernel_rfl) ?_
  rewrite [rep256]
  refine AG.indE (α := {x : Nat × (Nat → Int) // x.1 ≤ 128 ∧ ∀ j, x.2 j = if j < x.1 then pE v j else 0}) (fun x => 128 - x.1.1)
    (fun x => ⟨mkT 21 [(1, .p 0 0), (2, .p 4 0), (3, .p 8 0), (4, .ex (.int .i64 (x.1.1 : Int)))], [(0, .own (ar8 16 (byt v))), (4, .own (ar8 256 (fun _ => 0))), (8, .own (ar8 256 x.1.2))], 9⟩) ⟨(0, fun _ => 0), by simp, fun j => by simp⟩ (by kernel_rfl) ?_
  rintro ⟨⟨k, g⟩, hk, hg⟩ ih
  simp only at hk hg ih ⊢
  refine AG.rk 3 [1, 2, 3, 4, 6] [0, 4, 8] 9 (todo' := [.code (sub (codeOf Try.f46) [1, 1, 0, 1, 0, 0, 0, 1]), .code (sub (codeOf Try.f46) [1, 1, 0, 1, 0, 0, 1]), .inLoop (sub (codeOf Try.f46) [1, 1, 0, 1, 0, 0]), .inBlock 0, .code (sub (codeOf Try.f46) [1, 1, 1])]) (st' := ⟨mkT 21 [(1, .p 0 0), (2, .p 4 0), (3, .p 8 0), (4, .ex (.int .i64 (↑k : Int))), (6, .ex (.bool (decide ((↑k : Int) < 128))))], [(0, .own (ar8 16 (byt v))), (4, .own (ar8 256 fun x => 0)), (8, .own (ar8 256 g))], 9⟩) (by kernel_rfl) (by kernel_rfl) ?_
  refine AG.cond (b := decide ((↑k : Int) < 128)) (by kernel_rfl) (fun hc => ?_) (fun hc => ?_)
  · have hk' : k < 128 := by simp at hc; omega
    clear hc
    have e5 : IntKind.i64.wrap ((k : Int) + 1) = ((k + 1 : Nat) : Int) := by rw [wrap64_id _ (by omega) (by omega)]; omega
    have e6 : IntKind.i64.wrap ((k : Int).tdiv 8) = ((k / 8 : Nat) : Int) := by rw [Int.tdiv_eq_ediv_of_nonneg (by omega), wrap64_id _ (by omega) (by omega)]; omega
    have e7 : (k : Int).tmod 8 = ((k % 8 : Nat) : Int) := by rw [Int.tmod_eq_emod_of_nonneg (by omega)]; omega
    have e9 : (ar8 16 (byt v)).getD (0 + ((k / 8 : Nat) : Int).toNat * 1) undef = .int .u8 (byt v (k / 8)) := get_ar8 16 (byt v) ((k / 8 : Nat)) (by omega) (by omega)
    have e10 := bit_byte v k hk'
    have eP : putAt (ar8 256 g) (0 + (k : Int).toNat * 1) (Value.int IntKind.u8 (pE v k)).cells.toList = ar8 256 (upd g k (pE v k)) := put_ar8 256 g (k : Int) (by omega) (by omega) _
    refine AG.rk 3 [1, 2, 3, 4] [0, 4, 8] 9 (todo' := [.code (sub (codeOf Try.f46) [1, 1, 0, 1, 0, 0, 1, 0, 0]), .inBlock 1, .code (sub (codeOf Try.f46) [1, 1, 0, 1, 0, 0, 1, 1]), .inLoop (sub (codeOf Try.f46) [1, 1, 0, 1, 0, 0]), .inBlock 0, .code (sub (codeOf Try.f46) [1, 1, 1])]) (st' := ⟨mkT 21 [(1, .p 0 0), (2, .p 4 0), (3, .p 8 0), (4, .ex (.int .i64 (↑k : Int)))], [(0, .own (ar8 16 (byt v))), (4, .own (ar8 256 fun x => 0)), (8, .own (ar8 256 g))], 9⟩) (by kernel_rfl) (by kernel_rfl) ?_
    refine AG.gk [3, 10, 11] [(2, { val := .ex (.int .i64 (↑(k / 8) : Int)) }), (4, { val := .ex (.int .u8 (byt v (k / 8))) }), (6, { val := .ex (.int .i64 (↑(k % 8) : Int)) }), (9, { val := .ex (.int .u8 (pE v k)) })] [1, 2, 3, 4] [0, 4, 8] 9 (st' := ⟨mkT 21 [(1, .p 0 0), (2, .p 4 0), (3, .p 8 0), (4, .ex (.int .i64 (↑k : Int)))], [(0, .own (ar8 16 (byt v))), (4, .own (ar8 256 fun x => 0)), (8, .own (putAt (ar8 256 g) (0 + Int.toNat (↑k : Int) * 1) (Value.cells (Value.int .u8 (pE v k))).toList))], 9⟩) (obs := [Ob.eq (.ex (.int .i64 (IntKind.wrap .i64 (Int.tdiv (↑k : Int) 8)))) (.ex (.int .i64 (↑(k / 8) : Int))), Ob.le 1 8, Ob.ix (↑(k / 8) : Int) 16, Ob.eq (.ex (List.getD (ar8 16 (byt v)) (0 + Int.toNat (↑(k / 8) : Int) * 1) undef)) (.ex (.int .u8 (byt v (k / 8)))), Ob.le (0 + Int.toNat (↑(k / 8) : Int) * 1 + 1) 16, Ob.eq (.ex (.int .i64 (Int.tmod (↑k : Int) 8))) (.ex (.int .i64 (↑(k % 8) : Int))), Ob.le 1 8, Ob.eq (.ex (.int .u8 (Int.tmod (Int.fdiv (byt v (k / 8)) (2 ^ min (Int.toNat (IntKind.wrap .u64 (↑(k % 8) : Int))) 8)) 2))) (.ex (.int .u8 (pE v k))), Ob.le 1 2, Ob.ix (↑k : Int) 256, Ob.le (0 + Int.toNat (↑k : Int) * 1 + 1) 256, Ob.le 1 1, Ob.le 1 1, Ob.one [Value.int .u8 (pE v k)]]) (by kernel_rfl) (by kernel_rfl) ⟨(by first | (simp only [Ob.holds, e6, e7, e9, e10]; done) | (simp only [Ob.holds, e6, e7, e9, e10]; rfl)), (by first | (simp only [Ob.holds]; omega) | (simp [Ob.holds]; done) | (simp [Ob.holds]; omega) | ((repeat (first | exact one_map _ _ | exact one_arr _ _ _ | exact one_rep _ _ _ | exact u8_map _ | exact u8_arr _ _ | (refine one_take ?_ _) | (refine one_drop ?_ _) | (refine one_app ?_ ?_) | (refine u8_take ?_ _) | (refine u8_drop ?_ _) | (refine u8_app ?_ ?_) | rfl)); done) | (exact Ob.holds_of_dec (by kernel_rfl))), (by first | (simp only [Ob.holds]; omega) | (simp [Ob.holds]; done) | (simp [Ob.holds]; omega) | ((repeat (first | exact one_map _ _ | exact one_arr _ _ _ | exact one_rep _ _ _ | exact u8_map _ | exact u8_arr _ _ | (refine one_take ?_ _) | (refine one_drop ?_ _) | (refine one_app ?_ ?_) | (refine u8_take ?_ _) | (refine u8_drop ?_ _) | (refine u8_app ?_ ?_) | rfl)); done) | (exact Ob.holds_of_dec (by kernel_rfl))), (by first | (simp only [Ob.holds, e6, e7, e9, e10]; done) | (simp only [Ob.holds, e6, e7, e9, e10]; rfl)), (by first | (simp only [Ob.holds]; omega) | (simp [Ob.holds]; done) | (simp [Ob.holds]; omega) | ((repeat (first | exact one_map _ _ | exact one_arr _ _ _ | exact one_rep _ _ _ | exact u8_map _ | exact u8_arr _ _ | (refine one_take ?_ _) | (refine one_drop ?_ _) | (refine one_app ?_ ?_) | (refine u8_take ?_ _) | (refine u8_drop ?_ _) | (refine u8_app ?_ ?_) | rfl)); done) | (exact Ob.holds_of_dec (by kernel_rfl))), (by first | (simp only [Ob.holds, e6, e7, e9, e10]; done) | (simp only [Ob.holds, e6, e7, e9, e10]; rfl)), (by first | (simp only [Ob.holds]; omega) | (simp [Ob.holds]; done) | (simp [Ob.holds]; omega) | ((repeat (first | exact one_map _ _ | exact one_arr _ _ _ | exact one_rep _ _ _ | exact u8_map _ | exact u8_arr _ _ | (refine one_take ?_ _) | (refine one_drop ?_ _) | (refine one_app ?_ ?_) | (refine u8_take ?_ _) | (refine u8_drop ?_ _) | (refine u8_app ?_ ?_) | rfl)); done) | (exact Ob.holds_of_dec (by kernel_rfl))), (by first | (simp only [Ob.holds, e6, e7, e9, e10]; done) | (simp only [Ob.holds, e6, e7, e9, e10]; rfl)), (by first | (simp only [Ob.holds]; omega) | (simp [Ob.holds]; done) | (simp [Ob.holds]; omega) | ((repeat (first | exact one_map _ _ | exact one_arr _ _ _ | exact one_rep _ _ _ | exact u8_map _ | exact u8_arr _ _ | (refine one_take ?_ _) | (refine one_drop ?_ _) | (refine one_app ?_ ?_) | (refine u8_take ?_ _) | (refine u8_drop ?_ _) | (refine u8_app ?_ ?_) | rfl)); done) | (exact Ob.holds_of_dec (by kernel_rfl))), (by first | (simp only [Ob.holds]; omega) | (simp [Ob.holds]; done) | (simp [Ob.holds]; omega) | ((repeat (first | exact one_map _ _ | exact one_arr _ _ _ | exact one_rep _ _ _ | exact u8_map _ | exact u8_arr _ _ | (refine one_take ?_ _) | (refine one_drop ?_ _) | (refine one_app ?_ ?_) | (refine u8_take ?_ _) | (refine u8_drop ?_ _) | (refine u8_app ?_ ?_) | rfl)); done) | (exact Ob.holds_of_dec (by kernel_rfl))), (by first | (simp only [Ob.holds]; omega) | (simp [Ob.holds]; done) | (simp [Ob.holds]; omega) | ((repeat (first | exact one_map _ _ | exact one_arr _ _ _ | exact one_rep _ _ _ | exact u8_map _ | exact u8_arr _ _ | (refine one_take ?_ _) | (refine one_drop ?_ _) | (refine one_app ?_ ?_) | (refine u8_take ?_ _) | (refine u8_drop ?_ _) | (refine u8_app ?_ ?_) | rfl)); done) | (exact Ob.holds_of_dec (by kernel_rfl))), (by first | (simp only [Ob.holds]; omega) | (simp [Ob.holds]; done) | (simp [Ob.holds]; omega) | ((repeat (first | exact one_map _ _ | exact one_arr _ _ _ | exact one_rep _ _ _ | exact u8_map _ | exact u8_arr _ _ | (refine one_take ?_ _) | (refine one_drop ?_ _) | (refine one_app ?_ ?_) | (refine u8_take ?_ _) | (refine u8_drop ?_ _) | (refine u8_app ?_ ?_) | rfl)); done) | (exact Ob.holds_of_dec (by kernel_rfl))), (by first | (simp only [Ob.holds]; omega) | (simp [Ob.holds]; done) | (simp [Ob.holds]; omega) | ((repeat (first | exact one_map _ _ | exact one_arr _ _ _ | exact one_rep _ _ _ | exact u8_map _ | exact u8_arr _ _ | (refine one_take ?_ _) | (refine one_drop ?_ _) | (refine one_app ?_ ?_) | (refine u8_take ?_ _) | (refine u8_drop ?_ _) | (refine u8_app ?_ ?_) | rfl)); done) | (exact Ob.holds_of_dec (by kernel_rfl))), (by first | (simp only [Ob.holds]; omega) | (simp [Ob.holds]; done) | (simp [Ob.holds]; omega) | ((repeat (first | exact one_map _ _ | exact one_arr _ _ _ | exact one_rep _ _ _ | exact u8_map _ | exact u8_arr _ _ | (refine one_take ?_ _) | (refine one_drop ?_ _) | (refine one_app ?_ ?_) | (refine u8_take ?_ _) | (refine u8_drop ?_ _) | (refine u8_app ?_ ?_) | rfl)); done) | (exact Ob.holds_of_dec (by kernel_rfl))), trivial⟩ ?_
    refine AG.rk 3 [1, 2, 3, 4] [0, 4, 8] 9 (todo' := [.code (sub (codeOf Try.f46) [1, 1, 0, 1, 0, 0]), .inLoop (sub (codeOf Try.f46) [1, 1, 0, 1, 0, 0]), .inBlock 0, .code (sub (codeOf Try.f46) [1, 1, 1])]) (st' := ⟨mkT 21 [(1, .p 0 0), (2, .p 4 0), (3, .p 8 0), (4, .ex (.int .i64 (IntKind.wrap .i64 ((↑k : Int) + 1))))], [(0, .own (ar8 16 (byt v))), (4, .own (ar8 256 fun x => 0)), (8, .own (putAt (ar8 256 g) (0 + Int.toNat (↑k : Int) * 1) (Value.cells (Value.int .u8 (pE v k))).toList))], 9⟩) (by kernel_rfl) (by kernel_rfl) ?_
    rewrite [e5]
    first | rewrite [eP] | rewrite [e10, eP]
    refine ih ⟨(k + 1, upd g k (pE v k)), hk', fun j => ?_⟩ (by simp only; omega)
    simp only [upd]
    split
    · rename_i h; subst h; rw [if_pos (by omega)]
    · rw [hg j]; by_cases h : j < k
      · rw [if_pos h, if_pos (by omega)]
      · rw [if_neg h, if_neg (by omega)]
  · obtain rfl : k = 128 := by simp at hc; omega
    clear hc ih
    have : g = pE v := funext fun j => by
      rw [hg j]
      split
      · rfl
      · unfold pE; rw [BitVec.getLsbD_of_ge _ _ (by omega)]; rfl
    rw [this]
    refine AG.rk 3 [2] [4] 5 (todo' := [.code (sub (codeOf Try.f46) [1, 1, 1, 1])]) (st' := ⟨mkT 21 [(2, .p 4 0)], [(4, .own (ar8 256 (pE v)))], 5⟩) (by kernel_rfl) (by kernel_rfl) ?_
    refine AG.fin ([.ex (.agg { toList := ar8 256 (pE v) })]) Go.Proofs.Try.f46 fn46 (.inr ⟨_, rfl⟩) (obs := [Ob.le 256 256]) (by kernel_rfl) ⟨(Ob.holds_of_dec (by kernel_rfl)), trivial⟩ (by kernel_rfl) trivial (by kernel_rfl)
theorem byt_p8 (v : E) (j : Nat) (hj : j < 16) : p8 ((v.toNat : Nat) : Int) 128 j = byt v j := by
  rw [byt_toNat v j hj]
  unfold p8
  have h1 : (((v.toNat : Nat) : Int) % 2 ^ 128) = ((v.toNat : Nat) : Int) := by
    have := v.isLt
    rw [show (2 : Int) ^ 128 = ((2 ^ 128 : Nat) : Int) from rfl]; omega
  rw [h1]
  have e : (2 : Int) ^ (8 * j) = ((2 ^ (8 * j) : Nat) : Int) := by simp
  rw [e]; simp
theorem lowest_e (v : E) (f : Nat → Int) (hf : ∀ k, k < 128 → f k = pE v k) : CallOK Try.prog (fun _ => none) 47 [.ex (.agg (ar8 256 f).toArray)] [] { val := .ex (.agg (ar8 16 (byt v)).toArray) } := by
  refine CallOK.from0 hmix Try.f47 0 fn47 (by kernel_rfl) (by kernel_rfl) (fun w ρ h1 h2 => ?_)
  refine AG.rk 8 [1, 2, 3, 4] [0, 4, 8] 9 (todo' := [.code (sub (codeOf Try.f47) [1, 1, 0, 1, 0]), .inBlock 0, .code (sub (codeOf Try.f47) [1, 1, 1])]) (st' := ⟨mkT 25 [(1, .p 0 0), (2, .p 4 0), (3, .p 8 0), (4, .ex (.int .i64 0))], [(0, .own (ar8 256 f)), (4, .own (List.replicate 16 (Value.int .u8 0))), (8, .own (List.replicate 16 (Value.int .u8 0)))], 9⟩) (by kernel_rfl) (by kernel_rfl) ?_
  refine AG.rk 1 [1, 2, 3, 4] [0, 4, 8] 9 (todo' := [.code (sub (codeOf Try.f47) [1, 1, 0, 1, 0, 0]), .inLoop (sub (codeOf Try.f47) [1, 1, 0, 1, 0, 0]), .inBlock 0, .code (sub (codeOf Try.f47) [1, 1, 1])]) (st' := ⟨mkT 25 [(1, .p 0 0), (2, .p 4 0), (3, .p 8 0), (4, .ex (.int .i64 0))], [(0, .own (ar8 256 f)), (4, .own (List.replicate 16 (Value.int .u8 0))), (8, .own (List.replicate 16 (Value.int .u8 0)))], 9⟩) (by kernel_rfl) (by kernel_rfl) ?_
  rewrite [show List.replicate 16 (Value.int IntKind.u8 0) = ar8 16 (fun _ => 0) from rfl]
  refine AG.indE (α := {x : Nat × (Nat → Int) // x.1 ≤ 128 ∧ ∀ j, j < 16 → x.2 j = p8 ((v.toNat : Nat) : Int) x.1 j}) (fun x => 128 - x.1.1)
    (fun x => ⟨mkT 25 [(1, .p 0 0), (2, .p 4 0), (3, .p 8 0), (4, .ex (.int .i64 (x.1.1 : Int)))], [(0, .own (ar8 256 f)), (4, .own (ar8 16 (fun _ => 0))), (8, .own (ar8 16 x.1.2))], 9⟩) ⟨(0, fun _ => 0), by simp, fun j _ => by simp [p8]⟩ (by kernel_rfl) ?_
  rintro ⟨⟨k, g⟩, hk, hg⟩ ih
  simp only at hk hg ih ⊢
  refine AG.rk 3 [1, 2, 3, 4, 6] [0, 4, 8] 9 (todo' := [.code (sub (codeOf Try.f47) [1, 1, 0, 1, 0, 0, 0, 1]), .code (sub (codeOf Try.f47) [1, 1, 0, 1, 0, 0, 1]), .inLoop (sub (codeOf Try.f47) [1, 1, 0, 1, 0, 0]), .inBlock 0, .code (sub (codeOf Try.f47) [1, 1, 1])]) (st' := ⟨mkT 25 [(1, .p 0 0), (2, .p 4 0), (3, .p 8 0), (4, .ex (.int .i64 (↑k : Int))), (6, .ex (.bool (decide ((↑k : Int) < 128))))], [(0, .own (ar8 256 f)), (4, .own (ar8 16 fun x => 0)), (8, .own (ar8 16 g))], 9⟩) (by kernel_rfl) (by kernel_rfl) ?_
  refine AG.cond (b := decide ((↑k : Int) < 128)) (by kernel_rfl) (fun hc => ?_) (fun hc => ?_)
  · have hk' : k < 128 := by simp at hc; omega
    clear hc
    have e5 : IntKind.i64.wrap ((k : Int) + 1) = ((k + 1 : Nat) : Int) := by rw [wrap64_id _ (by omega) (by omega)]; omega
    have e6 : IntKind.i64.wrap ((k : Int).tdiv 8) = ((k / 8 : Nat) : Int) := by rw [Int.tdiv_eq_ediv_of_nonneg (by omega), wrap64_id _ (by omega) (by omega)]; omega
    have e7 : (k : Int).tmod 8 = ((k % 8 : Nat) : Int) := by rw [Int.tmod_eq_emod_of_nonneg (by omega)]; omega
    have e9 : (ar8 16 g).getD (0 + ((k / 8 : Nat) : Int).toNat * 1) undef = .int .u8 (g (k / 8)) := get_ar8 16 g ((k / 8 : Nat)) (by omega) (by omega)
    have e10 : (ar8 256 f).getD (0 + (k : Int).toNat * 1) undef = .int .u8 (f k) := get_ar8 256 f k (by omega) (by omega)
    refine AG.rk 3 [1, 2, 3, 4] [0, 4, 8] 9 (todo' := [.code (sub (codeOf Try.f47) [1, 1, 0, 1, 0, 0, 1, 0, 0]), .inBlock 1, .code (sub (codeOf Try.f47) [1, 1, 0, 1, 0, 0, 1, 1]), .inLoop (sub (codeOf Try.f47) [1, 1, 0, 1, 0, 0]), .inBlock 0, .code (sub (codeOf Try.f47) [1, 1, 1])]) (st' := ⟨mkT 25 [(1, .p 0 0), (2, .p 4 0), (3, .p 8 0), (4, .ex (.int .i64 (↑k : Int)))], [(0, .own (ar8 256 f)), (4, .own (ar8 16 fun x => 0)), (8, .own (ar8 16 g))], 9⟩) (by kernel_rfl) (by kernel_rfl) ?_
    refine AG.gk [4, 7, 14, 15] [(1, { val := .ex (.int .i64 (↑(k / 8) : Int)) }), (3, { val := .ex (.int .i64 (↑(k / 8) : Int)) }), (5, { val := .ex (.int .u8 (g (k / 8))) }), (8, { val := .ex (.int .u8 (f k)) }), (10, { val := .ex (.int .i64 (↑(k % 8) : Int)) })] [1, 2, 3, 4] [0, 4, 8] 9 (st' := ⟨mkT 25 [(1, .p 0 0), (2, .p 4 0), (3, .p 8 0), (4, .ex (.int .i64 (↑k : Int)))], [(0, .own (ar8 256 f)), (4, .own (ar8 16 fun x => 0)), (8, .own (putAt (ar8 16 g) (0 + Int.toNat (↑(k / 8) : Int) * 1) (Value.cells (Value.int .u8 (IntKind.wrap .u8 (g (k / 8) + IntKind.wrap .u8 (f k * 2 ^ min (Int.toNat (IntKind.wrap .u64 (↑(k % 8) : Int))) 8))))).toList))], 9⟩) (obs := [Ob.eq (.ex (.int .i64 (IntKind.wrap .i64 (Int.tdiv (↑k : Int) 8)))) (.ex (.int .i64 (↑(k / 8) : Int))), Ob.le 1 8, Ob.eq (.ex (.int .i64 (IntKind.wrap .i64 (Int.tdiv (↑k : Int) 8)))) (.ex (.int .i64 (↑(k / 8) : Int))), Ob.le 1 8, Ob.ix (↑(k / 8) : Int) 16, Ob.eq (.ex (List.getD (ar8 16 g) (0 + Int.toNat (↑(k / 8) : Int) * 1) undef)) (.ex (.int .u8 (g (k / 8)))), Ob.le (0 + Int.toNat (↑(k / 8) : Int) * 1 + 1) 16, Ob.ix (↑k : Int) 256, Ob.eq (.ex (List.getD (ar8 256 f) (0 + Int.toNat (↑k : Int) * 1) undef)) (.ex (.int .u8 (f k))), Ob.le (0 + Int.toNat (↑k : Int) * 1 + 1) 256, Ob.eq (.ex (.int .i64 (Int.tmod (↑k : Int) 8))) (.ex (.int .i64 (↑(k % 8) : Int))), Ob.le 1 8, Ob.ix (↑(k / 8) : Int) 16, Ob.le (0 + Int.toNat (↑(k / 8) : Int) * 1 + 1) 16, Ob.le 1 1, Ob.le 1 1, Ob.one [Value.int .u8 (IntKind.wrap .u8 (g (k / 8) + IntKind.wrap .u8 (f k * 2 ^ min (Int.toNat (IntKind.wrap .u64 (↑(k % 8) : Int))) 8)))]]) (by kernel_rfl) (by kernel_rfl) ⟨(by first | (simp only [Ob.holds, e6, e7, e9, e10]; done) | (simp only [Ob.holds, e6, e7, e9, e10]; rfl)), (by first | (simp only [Ob.holds]; omega) | (simp [Ob.holds]; done) | (simp [Ob.holds]; omega) | ((repeat (first | exact one_map _ _ | exact one_arr _ _ _ | exact one_rep _ _ _ | exact u8_map _ | exact u8_arr _ _ | (refine one_take ?_ _) | (refine one_drop ?_ _) | (refine one_app ?_ ?_) | (refine u8_take ?_ _) | (refine u8_drop ?_ _) | (refine u8_app ?_ ?_) | rfl)); done) | (exact Ob.holds_of_dec (by kernel_rfl))), (by first | (simp only [Ob.holds, e6, e7, e9, e10]; done) | (simp only [Ob.holds, e6, e7, e9, e10]; rfl)), (by first | (simp only [Ob.holds]; omega) | (simp [Ob.holds]; done) | (simp [Ob.holds]; omega) | ((repeat (first | exact one_map _ _ | exact one_arr _ _ _ | exact one_rep _ _ _ | exact u8_map _ | exact u8_arr _ _ | (refine one_take ?_ _) | (refine one_drop ?_ _) | (refine one_app ?_ ?_) | (refine u8_take ?_ _) | (refine u8_drop ?_ _) | (refine u8_app ?_ ?_) | rfl)); done) | (exact Ob.holds_of_dec (by kernel_rfl))), (by first | (simp only [Ob.holds]; omega) | (simp [Ob.holds]; done) | (simp [Ob.holds]; omega) | ((repeat (first | exact one_map _ _ | exact one_arr _ _ _ | exact one_rep _ _ _ | exact u8_map _ | exact u8_arr _ _ | (refine one_take ?_ _) | (refine one_drop ?_ _) | (refine one_app ?_ ?_) | (refine u8_take ?_ _) | (refine u8_drop ?_ _) | (refine u8_app ?_ ?_) | rfl)); done) | (exact Ob.holds_of_dec (by kernel_rfl))), (by first | (simp only [Ob.holds, e6, e7, e9, e10]; done) | (simp only [Ob.holds, e6, e7, e9, e10]; rfl)), (by first | (simp only [Ob.holds]; omega) | (simp [Ob.holds]; done) | (simp [Ob.holds]; omega) | ((repeat (first | exact one_map _ _ | exact one_arr _ _ _ | exact one_rep _ _ _ | exact u8_map _ | exact u8_arr _ _ | (refine one_take ?_ _) | (refine one_drop ?_ _) | (refine one_app ?_ ?_) | (refine u8_take ?_ _) | (refine u8_drop ?_ _) | (refine u8_app ?_ ?_) | rfl)); done) | (exact Ob.holds_of_dec (by kernel_rfl))), (by first | (simp only [Ob.holds]; omega) | (simp [Ob.holds]; done) | (simp [Ob.holds]; omega) | ((repeat (first | exact one_map _ _ | exact one_arr _ _ _ | exact one_rep _ _ _ | exact u8_map _ | exact u8_arr _ _ | (refine one_take ?_ _) | (refine one_drop ?_ _) | (refine one_app ?_ ?_) | (refine u8_take ?_ _) | (refine u8_drop ?_ _) | (refine u8_app ?_ ?_) | rfl)); done) | (exact Ob.holds_of_dec (by kernel_rfl))), (by first | (simp only [Ob.holds, e6, e7, e9, e10]; done) | (simp only [Ob.holds, e6, e7, e9, e10]; rfl)), (by first | (simp only [Ob.holds]; omega) | (simp [Ob.holds]; done) | (simp [Ob.holds]; omega) | ((repeat (first | exact one_map _ _ | exact one_arr _ _ _ | exact one_rep _ _ _ | exact u8_map _ | exact u8_arr _ _ | (refine one_take ?_ _) | (refine one_drop ?_ _) | (refine one_app ?_ ?_) | (refine u8_take ?_ _) | (refine u8_drop ?_ _) | (refine u8_app ?_ ?_) | rfl)); done) | (exact Ob.holds_of_dec (by kernel_rfl))), (by first | (simp only [Ob.holds, e6, e7, e9, e10]; done) | (simp only [Ob.holds, e6, e7, e9, e10]; rfl)), (by first | (simp only [Ob.holds]; omega) | (simp [Ob.holds]; done) | (simp [Ob.holds]; omega) | ((repeat (first | exact one_map _ _ | exact one_arr _ _ _ | exact one_rep _ _ _ | exact u8_map _ | exact u8_arr _ _ | (refine one_take ?_ _) | (refine one_drop ?_ _) | (refine one_app ?_ ?_) | (refine u8_take ?_ _) | (refine u8_drop ?_ _) | (refine u8_app ?_ ?_) | rfl)); done) | (exact Ob.holds_of_dec (by kernel_rfl))), (by first | (simp only [Ob.holds]; omega) | (simp [Ob.holds]; done) | (simp [Ob.holds]; omega) | ((repeat (first | exact one_map _ _ | exact one_arr _ _ _ | exact one_rep _ _ _ | exact u8_map _ | exact u8_arr _ _ | (refine one_take ?_ _) | (refine one_drop ?_ _) | (refine one_app ?_ ?_) | (refine u8_take ?_ _) | (refine u8_drop ?_ _) | (refine u8_app ?_ ?_) | rfl)); done) | (exact Ob.holds_of_dec (by kernel_rfl))), (by first | (simp only [Ob.holds]; omega) | (simp [Ob.holds]; done) | (simp [Ob.holds]; omega) | ((repeat (first | exact one_map _ _ | exact one_arr _ _ _ | exact one_rep _ _ _ | exact u8_map _ | exact u8_arr _ _ | (refine one_take ?_ _) | (refine one_drop ?_ _) | (refine one_app ?_ ?_) | (refine u8_take ?_ _) | (refine u8_drop ?_ _) | (refine u8_app ?_ ?_) | rfl)); done) | (exact Ob.holds_of_dec (by kernel_rfl))), (by first | (simp only [Ob.holds]; omega) | (simp [Ob.holds]; done) | (simp [Ob.holds]; omega) | ((repeat (first | exact one_map _ _ | exact one_arr _ _ _ | exact one_rep _ _ _ | exact u8_map _ | exact u8_arr _ _ | (refine one_take ?_ _) | (refine one_drop ?_ _) | (refine one_app ?_ ?_) | (refine u8_take ?_ _) | (refine u8_drop ?_ _) | (refine u8_app ?_ ?_) | rfl)); done) | (exact Ob.holds_of_dec (by kernel_rfl))), (by first | (simp only [Ob.holds]; omega) | (simp [Ob.holds]; done) | (simp [Ob.holds]; omega) | ((repeat (first | exact one_map _ _ | exact one_arr _ _ _ | exact one_rep _ _ _ | exact u8_map _ | exact u8_arr _ _ | (refine one_take ?_ _) | (refine one_drop ?_ _) | (refine one_app ?_ ?_) | (refine u8_take ?_ _) | (refine u8_drop ?_ _) | (refine u8_app ?_ ?_) | rfl)); done) | (exact Ob.holds_of_dec (by kernel_rfl))), (by first | (simp only [Ob.holds]; omega) | (simp [Ob.holds]; done) | (simp [Ob.holds]; omega) | ((repeat (first | exact one_map _ _ | exact one_arr _ _ _ | exact one_rep _ _ _ | exact u8_map _ | exact u8_arr _ _ | (refine one_take ?_ _) | (refine one_drop ?_ _) | (refine one_app ?_ ?_) | (refine u8_take ?_ _) | (refine u8_drop ?_ _) | (refine u8_app ?_ ?_) | rfl)); done) | (exact Ob.holds_of_dec (by kernel_rfl))), trivial⟩ ?_
    refine AG.rk 3 [1, 2, 3, 4] [0, 4, 8] 9 (todo' := [.code (sub (codeOf Try.f47) [1, 1, 0, 1, 0, 0]), .inLoop (sub (codeOf Try.f47) [1, 1, 0, 1, 0, 0]), .inBlock 0, .code (sub (codeOf Try.f47) [1, 1, 1])]) (st' := ⟨mkT 25 [(1, .p 0 0), (2, .p 4 0), (3, .p 8 0), (4, .ex (.int .i64 (IntKind.wrap .i64 ((↑k : Int) + 1))))], [(0, .own (ar8 256 f)), (4, .own (ar8 16 fun x => 0)), (8, .own (putAt (ar8 16 g) (0 + Int.toNat (↑(k / 8) : Int) * 1) (Value.cells (Value.int .u8 (IntKind.wrap .u8 (g (k / 8) + IntKind.wrap .u8 (f k * 2 ^ min (Int.toNat (IntKind.wrap .u64 (↑(k % 8) : Int))) 8))))).toList))], 9⟩) (by kernel_rfl) (by kernel_rfl) ?_
    have eb : f k = ((v.toNat : Nat) : Int) / 2 ^ k % 2 := by
      rw [hf k hk']
      unfold pE b01
      rw [show v.getLsbD k = v.toNat.testBit k from rfl, Nat.testBit_eq_decide_div_mod_eq]
      have e : (2 : Int) ^ k = ((2 ^ k : Nat) : Int) := by simp
      have e3 : ((v.toNat : Nat) : Int) / 2 ^ k % 2 = ((v.toNat / 2 ^ k % 2 : Nat) : Int) := by rw [e]; simp
      rw [e3]
      have h01 : v.toNat / 2 ^ k % 2 = 0 ∨ v.toNat / 2 ^ k % 2 = 1 := by omega
      rcases h01 with h | h <;> rw [h] <;> rfl
    have eW : IntKind.u8.wrap (g (k / 8) + IntKind.u8.wrap (f k * 2 ^ min (IntKind.u64.wrap ((k % 8 : Nat) : Int)).toNat 8)) = p8 ((v.toNat : Nat) : Int) (k + 1) (k / 8) := by
      have hs := p8_step ((v.toNat : Nat) : Int) k (k / 8)
      rw [if_pos rfl, ← hg (k / 8) (by omega), ← eb] at hs
      have hr : 0 ≤ p8 ((v.toNat : Nat) : Int) (k + 1) (k / 8) ∧ p8 ((v.toNat : Nat) : Int) (k + 1) (k / 8) < 256 := by unfold p8; omega
      have hg0 : 0 ≤ g (k / 8) := by rw [hg _ (by omega)]; unfold p8; omega
      have hw : (IntKind.u64.wrap ((k % 8 : Nat) : Int)).toNat = k % 8 := by rw [wrap_u64]; omega
      have hz : f k = 0 ∨ f k = 1 := by rw [eb]; omega
      rw [hw, Nat.min_eq_left (by omega), wrap_u8, wrap_u8]
      have h2 : k % 8 < 8 := by omega
      generalize p8 ((v.toNat : Nat) : Int) (k + 1) (k / 8) = y at *
      generalize g (k / 8) = z at *
      generalize f k = b at *
      generalize k % 8 = r at *
      rcases hz with rfl | rfl
      · rw [Int.zero_mul]; omega
      · rw [Int.one_mul, Int.mul_one] at *
        rcases (by omega : r = 0 ∨ r = 1 ∨ r = 2 ∨ r = 3 ∨ r = 4 ∨ r = 5 ∨ r = 6 ∨ r = 7) with rfl | rfl | rfl | rfl | rfl | rfl | rfl | rfl <;> omega
    have eP : putAt (ar8 16 g) (0 + ((k / 8 : Nat) : Int).toNat * 1) (Value.int IntKind.u8 (p8 ((v.toNat : Nat) : Int) (k + 1) (k / 8))).cells.toList = ar8 16 (upd g (k / 8) (p8 ((v.toNat : Nat) : Int) (k + 1) (k / 8))) := put_ar8 16 g ((k / 8 : Nat) : Int) (by omega) (by omega) _
    rewrite [e5, eW, eP]
    refine ih ⟨(k + 1, upd g (k / 8) (p8 ((v.toNat : Nat) : Int) (k + 1) (k / 8))), hk', fun j hj => ?_⟩ (by simp only; omega)
    simp only [upd]
    split
    · rename_i h; rw [h]
    · rename_i h; rw [hg j hj, p8_step, if_neg h]
  · obtain rfl : k = 128 := by simp at hc; omega
    clear hc ih
    rw [ar8_congr (s := g) (t := byt v) fun j hj => by rw [hg j hj]; exact byt_p8 v j hj]
    refine AG.rk 3 [2] [4] 5 (todo' := [.code (sub (codeOf Try.f47) [1, 1, 1, 1])]) (st' := ⟨mkT 25 [(2, .p 4 0)], [(4, .own (ar8 16 (byt v)))], 5⟩) (by kernel_rfl) (by kernel_rfl) ?_
    refine AG.fin ([.ex (.agg { toList := ar8 16 (byt v) })]) Go.Proofs.Try.f47 fn47 (.inr ⟨_, rfl⟩) (obs := [Ob.le 16 16]) (by kernel_rfl) ⟨(Ob.holds_of_dec (by kernel_rfl)), trivial⟩ (by kernel_rfl) trivial (by kernel_rfl)
end Go.Proofs.Ytdeobbgkfhnhlaa.Ab
