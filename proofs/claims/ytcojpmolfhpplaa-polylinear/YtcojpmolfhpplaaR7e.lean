/- Own: the reference's values of parts, and parts of a value (no statement is proved here). -/
import Derived.Test.YtcojpmolfhpplaaR7d
import Derived.KernelRfl
namespace Go.Proofs.Ytcojpmolfhpplaa.Ab
open Go.Proofs
set_option linter.unusedSimpArgs false
theorem fn17 : Try.prog.funcs[17]? = some Try.f17 := by kernel_rfl
def VN : Nat → (Nat → Int) → Int
  | 0, _ => 0
  | n + 1, a => VN n a + 67108864 ^ n * a n
theorem pow_8 (t : Nat) : (256 : Int) ^ (t / 8) * 2 ^ (t % 8) = 2 ^ t := by
  rw [show (256 : Int) = 2 ^ 8 from rfl, ← Int.pow_mul, ← Int.pow_add, Nat.div_add_mod]
theorem shl_small (t m : Nat) (hm : m ≤ 31) (ht : t < 1000) (h8 : (m = 8 ∨ m = 26)) : IntKind.i64.wrap (1 * 2 ^ min (IntKind.u64.wrap ((t : Int).tmod m)).toNat 64) = 2 ^ (t % m) ∧ (0 : Int) < 2 ^ (t % m) ∧ (2 : Int) ^ (t % m) ≤ 2 ^ (m - 1) := by
  have a2 : min (IntKind.u64.wrap ((t : Int).tmod m)).toNat 64 = t % m := by
    rw [Int.tmod_eq_emod_of_nonneg (by omega), wrap_u64]
    rcases h8 with rfl | rfl <;> omega
  have hp : (0 : Int) < 2 ^ (t % m) := Int.pow_pos (by decide)
  have hle : (2 : Int) ^ (t % m) ≤ 2 ^ (m - 1) := by
    have : (2 : Int) ^ (m - 1) = 2 ^ (t % m) * 2 ^ (m - 1 - t % m) := by
      rw [← Int.pow_add]; congr 1; rcases h8 with rfl | rfl <;> omega
    rw [this]
    have h1 : (1 : Int) ≤ 2 ^ (m - 1 - t % m) := Int.pow_pos (n := 2) (by decide)
    have h2 : 2 ^ (t % m) * 1 ≤ 2 ^ (t % m) * (2 : Int) ^ (m - 1 - t % m) := Int.mul_le_mul_of_nonneg_left h1 (by omega)
    omega
  refine ⟨?_, hp, hle⟩
  rw [a2, Int.one_mul, wrap64_id _ (by omega) ?_]
  rcases h8 with rfl | rfl
  · rw [show (2 : Int) ^ (8 - 1) = 128 from rfl] at hle; omega
  · rw [show (2 : Int) ^ (26 - 1) = 33554432 from rfl] at hle; omega
def pt (v : Int) (t j : Nat) : Int := v % 2 ^ t / 2 ^ (26 * j) % 67108864
theorem pt_step (v : Int) (t : Nat) (j : Nat) : pt v (t + 1) j = if j = t / 26 then pt v t j + 2 ^ (t % 26) * (v / 2 ^ t % 2) else pt v t j := by
  have hp := Int.pow_pos (n := 2) (m := t) (by decide)
  have hm0 := Int.emod_nonneg v (show (2 : Int) ^ t ≠ 0 by omega)
  have hm1 := Int.emod_lt_of_pos v hp
  have hnew : v % 2 ^ (t + 1) = v % 2 ^ t + 2 ^ t * (v / 2 ^ t % 2) := by
    rw [Int.pow_succ]
    generalize (2 : Int) ^ t = p at *
    have h1 := Int.mul_ediv_add_emod v p
    have h3 : v / (p * 2) = v / p / 2 := by rw [Int.ediv_ediv_of_nonneg (by omega)]
    have h4 := Int.mul_ediv_add_emod v (p * 2)
    rw [h3] at h4
    have h2 := Int.mul_ediv_add_emod (v / p) 2
    have h5 : p * 2 * (v / p / 2) = p * (2 * (v / p / 2)) := by rw [Int.mul_assoc]
    have h6 : p * (v / p) = p * (2 * (v / p / 2)) + p * (v / p % 2) := by rw [← Int.mul_add, h2]
    omega
  have hb : v / 2 ^ t % 2 = 0 ∨ v / 2 ^ t % 2 = 1 := by omega
  generalize v / 2 ^ t % 2 = b at *
  unfold pt
  rw [hnew]
  generalize v % 2 ^ t = m at *
  have hq := Int.pow_pos (n := 2) (m := 26 * j) (by decide)
  by_cases h1 : j = t / 26
  · rw [if_pos h1]
    have e : (2 : Int) ^ t = 2 ^ (26 * j) * 2 ^ (t % 26) := by rw [← Int.pow_add, h1, Nat.div_add_mod]
    have hr : (2 : Int) ^ (t % 26) ≤ 33554432 := by
      have h : t % 26 < 26 := by omega
      have e2 : (33554432 : Int) = 2 ^ (t % 26) * 2 ^ (25 - t % 26) := by rw [← Int.pow_add, show t % 26 + (25 - t % 26) = 25 by omega]; rfl
      have h1 : (1 : Int) ≤ 2 ^ (25 - t % 26) := Int.pow_pos (n := 2) (by decide)
      have h0 : (0 : Int) ≤ 2 ^ (t % 26) := Int.le_of_lt (Int.pow_pos (by decide))
      have := Int.mul_le_mul_of_nonneg_left h1 h0
      omega
    rw [e, Int.mul_assoc, Int.add_mul_ediv_left _ _ (by omega)]
    have hmq : m / 2 ^ (26 * j) < 2 ^ (t % 26) := by
      rw [e] at hm1
      exact Int.ediv_lt_of_lt_mul hq (by rw [Int.mul_comm]; exact hm1)
    have hm2 : 0 ≤ m / 2 ^ (26 * j) := Int.ediv_nonneg hm0 (by omega)
    generalize m / 2 ^ (26 * j) = y at *
    generalize (2 : Int) ^ (t % 26) = z at *
    rcases hb with rfl | rfl <;> omega
  · rw [if_neg h1]
    by_cases h2 : t / 26 < j
    · obtain ⟨d, hd⟩ : ∃ d, 26 * j = t + 1 + d := ⟨26 * j - (t + 1), by omega⟩
      have e : (2 : Int) ^ (26 * j) = 2 ^ t * (2 * 2 ^ d) := by rw [hd, Int.pow_add, Int.pow_succ, Int.mul_assoc]
      have h3 : (1 : Int) ≤ 2 ^ d := Int.pow_pos (n := 2) (by decide)
      have h4 : 2 ^ t * 2 ≤ 2 ^ t * (2 * (2 : Int) ^ d) := Int.mul_le_mul_of_nonneg_left (by omega) (by omega)
      rw [e]
      have h5 : m + 2 ^ t * b < 2 ^ t * (2 * 2 ^ d) := by rcases hb with rfl | rfl <;> omega
      have h6 : 0 ≤ m + 2 ^ t * b := by rcases hb with rfl | rfl <;> omega
      rw [Int.ediv_eq_zero_of_lt h6 h5, Int.ediv_eq_zero_of_lt hm0 (by omega)]
    · obtain ⟨d, hd⟩ : ∃ d, t = 26 * j + (26 + d) := ⟨t - 26 * j - 26, by omega⟩
      have e : (2 : Int) ^ t * b = 2 ^ (26 * j) * (67108864 * (2 ^ d * b)) := by
        rw [hd, Int.pow_add, Int.pow_add, Int.mul_assoc, Int.mul_assoc]; rfl
      rw [e, Int.add_mul_ediv_left _ _ (by omega)]
      omega
theorem dig_bit (v : Int) (t : Nat) : dig v (t / 8) / 2 ^ (t % 8) % 2 = v / 2 ^ t % 2 := by
  rw [← pow_8 t, ← Int.ediv_ediv_of_nonneg (Int.le_of_lt (pow_pos' _))]
  unfold dig
  generalize v / 256 ^ (t / 8) = y
  have hr : t % 8 < 8 := by omega
  generalize t % 8 = r at *
  rcases (by omega : r = 0 ∨ r = 1 ∨ r = 2 ∨ r = 3 ∨ r = 4 ∨ r = 5 ∨ r = 6 ∨ r = 7) with rfl | rfl | rfl | rfl | rfl | rfl | rfl | rfl
  · show y % 256 / 1 % 2 = y / 1 % 2; omega
  · show y % 256 / 2 % 2 = y / 2 % 2; omega
  · show y % 256 / 4 % 2 = y / 4 % 2; omega
  · show y % 256 / 8 % 2 = y / 8 % 2; omega
  · show y % 256 / 16 % 2 = y / 16 % 2; omega
  · show y % 256 / 32 % 2 = y / 32 % 2; omega
  · show y % 256 / 64 % 2 = y / 64 % 2; omega
  · show y % 256 / 128 % 2 = y / 128 % 2; omega
theorem rparts_ok (v : Int) (hv0 : 0 ≤ v) (hv1 : v < 2 ^ 130) : CallOK Try.prog (fun _ => none) 17 [.ex (.agg (ar8 17 (dig v)).toArray)] [] { val := .ex (.agg (ar32 5 (fun i => v / 67108864 ^ i % 67108864)).toArray) } := by
  refine CallOK.from0 hmix Try.f17 0 fn17 (by kernel_rfl) (by kernel_rfl) (fun w ρ h1 h2 => ?_)
  refine AG.rk 8 [1, 2, 3, 4] [0, 4, 8] 9 (todo' := [.code (sub (codeOf Try.f17) [1, 1, 0, 1, 0]), .inBlock 0, .code (sub (codeOf Try.f17) [1, 1, 1])]) (st' := ⟨mkT 32 [(1, .p 0 0), (2, .p 4 0), (3, .p 8 0), (4, .ex (.int .i64 0))], [(0, .own (ar8 17 (dig v))), (4, .own [Value.int .u32 0, Value.int .u32 0, Value.int .u32 0, Value.int .u32 0, Value.int .u32 0]), (8, .own [Value.int .u32 0, Value.int .u32 0, Value.int .u32 0, Value.int .u32 0, Value.int .u32 0])], 9⟩) (by kernel_rfl) (by kernel_rfl) ?_
  refine AG.rk 1 [1, 2, 3, 4] [0, 4, 8] 9 (todo' := [.code (sub (codeOf Try.f17) [1, 1, 0, 1, 0, 0]), .inLoop (sub (codeOf Try.f17) [1, 1, 0, 1, 0, 0]), .inBlock 0, .code (sub (codeOf Try.f17) [1, 1, 1])]) (st' := ⟨mkT 32 [(1, .p 0 0), (2, .p 4 0), (3, .p 8 0), (4, .ex (.int .i64 0))], [(0, .own (ar8 17 (dig v))), (4, .own [Value.int .u32 0, Value.int .u32 0, Value.int .u32 0, Value.int .u32 0, Value.int .u32 0]), (8, .own [Value.int .u32 0, Value.int .u32 0, Value.int .u32 0, Value.int .u32 0, Value.int .u32 0])], 9⟩) (by kernel_rfl) (by kernel_rfl) ?_
  refine AG.indE (α := {x : Nat × (Nat → Int) // x.1 ≤ 130 ∧ ∀ j, j < 5 → x.2 j = pt v x.1 j}) (fun x => 130 - x.1.1)
    (fun x => ⟨mkT 32 [(1, .p 0 0), (2, .p 4 0), (3, .p 8 0), (4, .ex (.int .i64 (x.1.1 : Int)))], [(0, .own (ar8 17 (dig v))), (4, .own (ar32 5 zer)), (8, .own (ar32 5 x.1.2))], 9⟩) ⟨(0, zer), by decide, fun j _ => by simp [pt, zer, Int.emod_one]⟩ (by kernel_rfl) ?_
  rintro ⟨⟨t, f⟩, ht, hf⟩ ih
  simp only at ht hf ih ⊢
  refine AG.rk 3 [1, 2, 3, 4, 6] [0, 4, 8] 9 (todo' := [.code (sub (codeOf Try.f17) [1, 1, 0, 1, 0, 0, 0, 1]), .code (sub (codeOf Try.f17) [1, 1, 0, 1, 0, 0, 1]), .inLoop (sub (codeOf Try.f17) [1, 1, 0, 1, 0, 0]), .inBlock 0, .code (sub (codeOf Try.f17) [1, 1, 1])]) (st' := ⟨mkT 32 [(1, .p 0 0), (2, .p 4 0), (3, .p 8 0), (4, .ex (.int .i64 (↑t : Int))), (6, .ex (.bool (decide ((↑t : Int) < 130))))], [(0, .own (ar8 17 (dig v))), (4, .own (ar32 5 zer)), (8, .own (ar32 5 f))], 9⟩) (by kernel_rfl) (by kernel_rfl) ?_
  refine AG.cond (b := decide ((↑t : Int) < 130)) (by kernel_rfl) (fun hc => ?_) (fun hc => ?_)
  · have ht' : t < 130 := by simp at hc; omega
    clear hc
    have ed : IntKind.i64.wrap ((t : Int).tdiv 8) = ((t / 8 : Nat) : Int) := by
      rw [Int.tdiv_eq_ediv_of_nonneg (by omega), wrap64_id _ (by omega) (by omega)]; omega
    have er : (ar8 17 (dig v)).getD (0 + ((t / 8 : Nat) : Int).toNat * 1) undef = .int .u8 (dig v (t / 8)) := get_ar8 17 _ _ (by omega) (by omega)
    have eb : ((dig v (t / 8)).fdiv (2 ^ min (IntKind.u64.wrap ((t : Int).tmod 8)).toNat 8)).tmod 2 = v / 2 ^ t % 2 := by
      have a2 : min (IntKind.u64.wrap ((t : Int).tmod 8)).toNat 8 = t % 8 := by
        rw [Int.tmod_eq_emod_of_nonneg (by omega), wrap_u64]; omega
      have hp := Int.pow_pos (n := 2) (m := t % 8) (by decide)
      rw [a2, Int.fdiv_eq_ediv_of_nonneg _ (by omega), Int.tmod_eq_emod_of_nonneg (Int.ediv_nonneg (r8_dig _ _).1 (by omega)), dig_bit]
    have e5 : IntKind.i64.wrap ((t : Int) + 1) = ((t + 1 : Nat) : Int) := by rw [wrap64_id _ (by omega) (by omega)]; omega
    have hst := fun j => pt_step v t j
    refine AG.rk 4 [1, 2, 3, 4] [0, 4, 8] 9 (todo' := [.code (sub (codeOf Try.f17) [1, 1, 0, 1, 0, 0, 1, 0, 0, 0]), .code (sub (codeOf Try.f17) [1, 1, 0, 1, 0, 0, 1, 0, 0, 1]), .inBlock 1, .code (sub (codeOf Try.f17) [1, 1, 0, 1, 0, 0, 1, 1]), .inLoop (sub (codeOf Try.f17) [1, 1, 0, 1, 0, 0]), .inBlock 0, .code (sub (codeOf Try.f17) [1, 1, 1])]) (st' := ⟨mkT 32 [(1, .p 0 0), (2, .p 4 0), (3, .p 8 0), (4, .ex (.int .i64 (↑t : Int)))], [(0, .own (ar8 17 (dig v))), (4, .own (ar32 5 zer)), (8, .own (ar32 5 f))], 9⟩) (by kernel_rfl) (by kernel_rfl) ?_
    refine AG.gk [2] [(1, { val := .ex (.int .i64 (↑(t / 8) : Int)) }), (3, { val := .ex (.int .u8 (dig v (t / 8))) }), (8, { val := .ex (.int .u8 (v / 2 ^ t % 2)) })] [1, 2, 3, 4, 18] [0, 4, 8] 9 (st' := ⟨mkT 32 [(1, .p 0 0), (2, .p 4 0), (3, .p 8 0), (4, .ex (.int .i64 (↑t : Int))), (18, .ex (.bool (v / 2 ^ t % 2 == 1)))], [(0, .own (ar8 17 (dig v))), (4, .own (ar32 5 zer)), (8, .own (ar32 5 f))], 9⟩) (obs := [Ob.eq (.ex (.int .i64 (IntKind.wrap .i64 (Int.tdiv (↑t : Int) 8)))) (.ex (.int .i64 (↑(t / 8) : Int))), Ob.ix (↑(t / 8) : Int) 17, Ob.eq (.ex (List.getD (ar8 17 (dig v)) (0 + Int.toNat (↑(t / 8) : Int) * 1) undef)) (.ex (.int .u8 (dig v (t / 8)))), Ob.le (0 + Int.toNat (↑(t / 8) : Int) * 1 + 1) 17, Ob.eq (.ex (.int .u8 (Int.tmod (Int.fdiv (dig v (t / 8)) (2 ^ min (Int.toNat (IntKind.wrap .u64 (Int.tmod (↑t : Int) 8))) 8)) 2))) (.ex (.int .u8 (v / 2 ^ t % 2)))]) (by kernel_rfl) (by kernel_rfl) ⟨(by first | (simp only [Ob.holds, ed, er, eb]; done) | (simp only [Ob.holds, ed, er, eb]; rfl)), (by first | (simp only [Ob.holds]; omega) | (simp [Ob.holds]; done) | (simp [Ob.holds]; omega) | ((repeat (first | exact one_map _ _ | exact one_arr _ _ _ | exact one_rep _ _ _ | exact u8_map _ | exact u8_arr _ _ | (refine one_take ?_ _) | (refine one_drop ?_ _) | (refine one_app ?_ ?_) | (refine u8_take ?_ _) | (refine u8_drop ?_ _) | (refine u8_app ?_ ?_) | rfl)); done) | (exact Ob.holds_of_dec (by kernel_rfl))), (by first | (simp only [Ob.holds, ed, er, eb]; done) | (simp only [Ob.holds, ed, er, eb]; rfl)), (by first | (simp only [Ob.holds]; omega) | (simp [Ob.holds]; done) | (simp [Ob.holds]; omega) | ((repeat (first | exact one_map _ _ | exact one_arr _ _ _ | exact one_rep _ _ _ | exact u8_map _ | exact u8_arr _ _ | (refine one_take ?_ _) | (refine one_drop ?_ _) | (refine one_app ?_ ?_) | (refine u8_take ?_ _) | (refine u8_drop ?_ _) | (refine u8_app ?_ ?_) | rfl)); done) | (exact Ob.holds_of_dec (by kernel_rfl))), (by first | (simp only [Ob.holds, ed, er, eb]; done) | (simp only [Ob.holds, ed, er, eb]; rfl)), trivial⟩ ?_
    refine AG.cond (b := v / 2 ^ t % 2 == 1) (by kernel_rfl) (fun hc => ?_) (fun hc => ?_)
    · have hbit : v / 2 ^ t % 2 = 1 := by simpa using hc
      clear hc
      have ed2 : IntKind.i64.wrap ((t : Int).tdiv 26) = ((t / 26 : Nat) : Int) := by
        rw [Int.tdiv_eq_ediv_of_nonneg (by omega), wrap64_id _ (by omega) (by omega)]; omega
      have ef : (ar32 5 f).getD (0 + ((t / 26 : Nat) : Int).toNat * 1) undef = .int .u32 (f (t / 26)) := get_ar32 5 f _ (by omega) (by omega)
      refine AG.gk [4, 11, 12] [(1, { val := .ex (.int .i64 (↑(t / 26) : Int)) }), (3, { val := .ex (.int .i64 (↑(t / 26) : Int)) }), (5, { val := .ex (.int .u32 (f (t / 26))) })] [1, 2, 3, 4] [0, 4, 8] 9 (st' := ⟨mkT 32 [(1, .p 0 0), (2, .p 4 0), (3, .p 8 0), (4, .ex (.int .i64 (↑t : Int)))], [(0, .own (ar8 17 (dig v))), (4, .own (ar32 5 zer)), (8, .own (putAt (ar32 5 f) (0 + Int.toNat (↑(t / 26) : Int) * 1) (Value.cells (Value.int .u32 (IntKind.wrap .u32 (f (t / 26) + IntKind.wrap .u32 (1 * 2 ^ min (Int.toNat (IntKind.wrap .u64 (Int.tmod (↑t : Int) 26))) 32))))).toList))], 9⟩) (obs := [Ob.eq (.ex (.int .i64 (IntKind.wrap .i64 (Int.tdiv (↑t : Int) 26)))) (.ex (.int .i64 (↑(t / 26) : Int))), Ob.eq (.ex (.int .i64 (IntKind.wrap .i64 (Int.tdiv (↑t : Int) 26)))) (.ex (.int .i64 (↑(t / 26) : Int))), Ob.ix (↑(t / 26) : Int) 5, Ob.eq (.ex (List.getD (ar32 5 f) (0 + Int.toNat (↑(t / 26) : Int) * 1) undef)) (.ex (.int .u32 (f (t / 26)))), Ob.le (0 + Int.toNat (↑(t / 26) : Int) * 1 + 1) 5, Ob.ix (↑(t / 26) : Int) 5, Ob.le (0 + Int.toNat (↑(t / 26) : Int) * 1 + 1) 5, Ob.le 1 1, Ob.le 1 1, Ob.one [Value.int .u32 (IntKind.wrap .u32 (f (t / 26) + IntKind.wrap .u32 (1 * 2 ^ min (Int.toNat (IntKind.wrap .u64 (Int.tmod (↑t : Int) 26))) 32)))]]) (by kernel_rfl) (by kernel_rfl) ⟨(by first | (simp only [Ob.holds, ed2, ef]; done) | (simp only [Ob.holds, ed2, ef]; rfl)), (by first | (simp only [Ob.holds, ed2, ef]; done) | (simp only [Ob.holds, ed2, ef]; rfl)), (by first | (simp only [Ob.holds]; omega) | (simp [Ob.holds]; done) | (simp [Ob.holds]; omega) | ((repeat (first | exact one_map _ _ | exact one_arr _ _ _ | exact one_rep _ _ _ | exact u8_map _ | exact u8_arr _ _ | (refine one_take ?_ _) | (refine one_drop ?_ _) | (refine one_app ?_ ?_) | (refine u8_take ?_ _) | (refine u8_drop ?_ _) | (refine u8_app ?_ ?_) | rfl)); done) | (exact Ob.holds_of_dec (by kernel_rfl))), (by first | (simp only [Ob.holds, ed2, ef]; done) | (simp only [Ob.holds, ed2, ef]; rfl)), (by first | (simp only [Ob.holds]; omega) | (simp [Ob.holds]; done) | (simp [Ob.holds]; omega) | ((repeat (first | exact one_map _ _ | exact one_arr _ _ _ | exact one_rep _ _ _ | exact u8_map _ | exact u8_arr _ _ | (refine one_take ?_ _) | (refine one_drop ?_ _) | (refine one_app ?_ ?_) | (refine u8_take ?_ _) | (refine u8_drop ?_ _) | (refine u8_app ?_ ?_) | rfl)); done) | (exact Ob.holds_of_dec (by kernel_rfl))), (by first | (simp only [Ob.holds]; omega) | (simp [Ob.holds]; done) | (simp [Ob.holds]; omega) | ((repeat (first | exact one_map _ _ | exact one_arr _ _ _ | exact one_rep _ _ _ | exact u8_map _ | exact u8_arr _ _ | (refine one_take ?_ _) | (refine one_drop ?_ _) | (refine one_app ?_ ?_) | (refine u8_take ?_ _) | (refine u8_drop ?_ _) | (refine u8_app ?_ ?_) | rfl)); done) | (exact Ob.holds_of_dec (by kernel_rfl))), (by first | (simp only [Ob.holds]; omega) | (simp [Ob.holds]; done) | (simp [Ob.holds]; omega) | ((repeat (first | exact one_map _ _ | exact one_arr _ _ _ | exact one_rep _ _ _ | exact u8_map _ | exact u8_arr _ _ | (refine one_take ?_ _) | (refine one_drop ?_ _) | (refine one_app ?_ ?_) | (refine u8_take ?_ _) | (refine u8_drop ?_ _) | (refine u8_app ?_ ?_) | rfl)); done) | (exact Ob.holds_of_dec (by kernel_rfl))), (by first | (simp only [Ob.holds]; omega) | (simp [Ob.holds]; done) | (simp [Ob.holds]; omega) | ((repeat (first | exact one_map _ _ | exact one_arr _ _ _ | exact one_rep _ _ _ | exact u8_map _ | exact u8_arr _ _ | (refine one_take ?_ _) | (refine one_drop ?_ _) | (refine one_app ?_ ?_) | (refine u8_take ?_ _) | (refine u8_drop ?_ _) | (refine u8_app ?_ ?_) | rfl)); done) | (exact Ob.holds_of_dec (by kernel_rfl))), (by first | (simp only [Ob.holds]; omega) | (simp [Ob.holds]; done) | (simp [Ob.holds]; omega) | ((repeat (first | exact one_map _ _ | exact one_arr _ _ _ | exact one_rep _ _ _ | exact u8_map _ | exact u8_arr _ _ | (refine one_take ?_ _) | (refine one_drop ?_ _) | (refine one_app ?_ ?_) | (refine u8_take ?_ _) | (refine u8_drop ?_ _) | (refine u8_app ?_ ?_) | rfl)); done) | (exact Ob.holds_of_dec (by kernel_rfl))), (by first | (simp only [Ob.holds]; omega) | (simp [Ob.holds]; done) | (simp [Ob.holds]; omega) | ((repeat (first | exact one_map _ _ | exact one_arr _ _ _ | exact one_rep _ _ _ | exact u8_map _ | exact u8_arr _ _ | (refine one_take ?_ _) | (refine one_drop ?_ _) | (refine one_app ?_ ?_) | (refine u8_take ?_ _) | (refine u8_drop ?_ _) | (refine u8_app ?_ ?_) | rfl)); done) | (exact Ob.holds_of_dec (by kernel_rfl))), trivial⟩ ?_
      refine AG.rk 3 [1, 2, 3, 4] [0, 4, 8] 9 (todo' := [.code (sub (codeOf Try.f17) [1, 1, 0, 1, 0, 0]), .inLoop (sub (codeOf Try.f17) [1, 1, 0, 1, 0, 0]), .inBlock 0, .code (sub (codeOf Try.f17) [1, 1, 1])]) (st' := ⟨mkT 32 [(1, .p 0 0), (2, .p 4 0), (3, .p 8 0), (4, .ex (.int .i64 (IntKind.wrap .i64 ((↑t : Int) + 1))))], [(0, .own (ar8 17 (dig v))), (4, .own (ar32 5 zer)), (8, .own (putAt (ar32 5 f) (0 + Int.toNat (↑(t / 26) : Int) * 1) (Value.cells (Value.int .u32 (IntKind.wrap .u32 (f (t / 26) + IntKind.wrap .u32 (1 * 2 ^ min (Int.toNat (IntKind.wrap .u64 (Int.tmod (↑t : Int) 26))) 32))))).toList))], 9⟩) (by kernel_rfl) (by kernel_rfl) ?_
      have a2 : min (IntKind.u64.wrap ((t : Int).tmod 26)).toNat 32 = t % 26 := by
        rw [Int.tmod_eq_emod_of_nonneg (by omega), wrap_u64]; omega
      have F : f (t / 26) = pt v t (t / 26) := hf _ (by omega)
      have hn := hst (t / 26)
      rw [if_pos rfl, hbit, Int.mul_one] at hn
      have hr1 : 0 ≤ pt v t (t / 26) ∧ pt v t (t / 26) < 67108864 := by unfold pt; omega
      have hr2 : 0 ≤ pt v (t + 1) (t / 26) ∧ pt v (t + 1) (t / 26) < 67108864 := by unfold pt; omega
      have ev : IntKind.u32.wrap (f (t / 26) + IntKind.u32.wrap (1 * 2 ^ min (IntKind.u64.wrap ((t : Int).tmod 26)).toNat 32)) = pt v (t + 1) (t / 26) := by
        rw [a2, F, Int.one_mul, hn]
        rw [hn] at hr2
        generalize (2 : Int) ^ (t % 26) = z at *
        rw [wrap_u32, wrap_u32]
        omega
      have eP : putAt (ar32 5 f) (0 + ((t / 26 : Nat) : Int).toNat * 1) (Value.int IntKind.u32 (pt v (t + 1) (t / 26))).cells.toList = ar32 5 (upd f (t / 26) (pt v (t + 1) (t / 26))) := put_ar32 5 f ((t / 26 : Nat) : Int) (by omega) (by omega) _
      rw [ev, e5, eP]
      refine ih ⟨(t + 1, upd f (t / 26) (pt v (t + 1) (t / 26))), ht', fun j hj => ?_⟩ (by simp only; omega)
      simp only [upd]
      split
      · rename_i h; rw [h]
      · rename_i h
        rw [hst j, if_neg h, hf j hj]
    · have hbit : v / 2 ^ t % 2 = 0 := by have : ¬ v / 2 ^ t % 2 = 1 := by simpa using hc
                                          omega
      clear hc
      refine AG.rk 4 [1, 2, 3, 4] [0, 4, 8] 9 (todo' := [.code (sub (codeOf Try.f17) [1, 1, 0, 1, 0, 0]), .inLoop (sub (codeOf Try.f17) [1, 1, 0, 1, 0, 0]), .inBlock 0, .code (sub (codeOf Try.f17) [1, 1, 1])]) (st' := ⟨mkT 32 [(1, .p 0 0), (2, .p 4 0), (3, .p 8 0), (4, .ex (.int .i64 (IntKind.wrap .i64 ((↑t : Int) + 1))))], [(0, .own (ar8 17 (dig v))), (4, .own (ar32 5 zer)), (8, .own (ar32 5 f))], 9⟩) (by kernel_rfl) (by kernel_rfl) ?_
      rw [e5]
      refine ih ⟨(t + 1, f), ht', fun j hj => ?_⟩ (by simp only; omega)
      simp only
      rw [hst j, hbit, Int.mul_zero, Int.add_zero]
      split <;> exact hf j hj
  · obtain rfl : t = 130 := by simp at hc; omega
    clear hc ih
    refine AG.rk 3 [2] [4] 5 (todo' := [.code (sub (codeOf Try.f17) [1, 1, 1, 1])]) (st' := ⟨mkT 32 [(2, .p 4 0)], [(4, .own [Value.int .u32 (f 0), Value.int .u32 (f 1), Value.int .u32 (f 2), Value.int .u32 (f 3), Value.int .u32 (f 4)])], 5⟩) (by kernel_rfl) (by kernel_rfl) ?_
    refine AG.fin ([.ex (.agg { toList := [Value.int .u32 (f 0), Value.int .u32 (f 1), Value.int .u32 (f 2), Value.int .u32 (f 3), Value.int .u32 (f 4)] })]) Go.Proofs.Try.f17 fn17 (.inr ⟨_, rfl⟩) (obs := [Ob.le 5 5]) (by kernel_rfl) ⟨(Ob.holds_of_dec (by kernel_rfl)), trivial⟩ ?_ trivial (by kernel_rfl)
    have e : ar32 5 f = ar32 5 (fun i => v / 67108864 ^ i % 67108864) := ar32_congr fun i hi => by
      rw [hf i hi]
      unfold pt
      rw [Int.emod_eq_of_lt hv0 hv1, Int.pow_mul]
      rfl
    exact congrArg (fun l => AV.ex (.agg (List.toArray l))) e
end Go.Proofs.Ytcojpmolfhpplaa.Ab
