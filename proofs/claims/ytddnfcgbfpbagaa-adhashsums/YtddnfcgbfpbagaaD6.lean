/- Own: sums in bytes; the reference's sums (no statement is proved here). -/
import Derived.Test.YtddnfcgbfpbagaaD5
import Derived.KernelRfl
namespace Go.Proofs.Ytddnfcgbfpbagaa.Ab
open Go.Proofs
set_option linter.unusedSimpArgs false
set_option linter.unusedVariables false
theorem wb_sum (H B : Nat → Int) (hH : A16 H) (hB : A16 B) (j : Nat) (hj : j < 16) : wbytes (sumLo H B) (sumHi H B) j = dig (leN 16 H + leN 16 B) j := by
  have h1 : R64 (w2lo H) := r64_long8 _ _ _ _ _ _ _ _
  have h2 : R64 (w2hi H) := r64_long8 _ _ _ _ _ _ _ _
  have h3 : R64 (w2lo B) := r64_long8 _ _ _ _ _ _ _ _
  have h4 : R64 (w2hi B) := r64_long8 _ _ _ _ _ _ _ _
  rw [wb_dig _ _ (by unfold sumLo plusLo R64; omega) (by unfold sumHi plusHi R64; omega) j hj, leN16_w2 H hH, leN16_w2 B hB]
  unfold sumLo sumHi plusLo plusHi
  unfold R64 at h1 h2 h3 h4
  generalize w2lo H = a at *
  generalize w2hi H = b at *
  generalize w2lo B = c at *
  generalize w2hi B = d at *
  unfold dig
  have e : (a + c) % 18446744073709551616 + 18446744073709551616 * ((b + d + (a + c) / 18446744073709551616) % 18446744073709551616) = (a + 18446744073709551616 * b + (c + 18446744073709551616 * d)) % 340282366920938463463374607431768211456 := by omega
  rw [e]
  generalize a + 18446744073709551616 * b + (c + 18446744073709551616 * d) = S
  rcases (by omega : j = 0 ∨ j = 1 ∨ j = 2 ∨ j = 3 ∨ j = 4 ∨ j = 5 ∨ j = 6 ∨ j = 7 ∨ j = 8 ∨ j = 9 ∨ j = 10 ∨ j = 11 ∨ j = 12 ∨ j = 13 ∨ j = 14 ∨ j = 15) with rfl | rfl | rfl | rfl | rfl | rfl | rfl | rfl | rfl | rfl | rfl | rfl | rfl | rfl | rfl | rfl <;> (simp; try omega)
def cyp (f : Nat → Int) (k : Nat) : Int := leN k f / 256 ^ k
theorem cyp_step (f : Nat → Int) (k : Nat) : cyp f k + f k = leN (k + 1) f / 256 ^ k ∧ (cyp f k + f k) / 256 = cyp f (k + 1) := by
  have hP : (0 : Int) < 256 ^ k := Int.pow_pos (by decide)
  have e : cyp f k + f k = leN (k + 1) f / 256 ^ k := by
    show leN k f / 256 ^ k + f k = (leN k f + 256 ^ k * f k) / 256 ^ k
    rw [Int.mul_comm, Int.add_mul_ediv_right _ _ (by omega)]
  refine ⟨e, ?_⟩
  rw [e]
  unfold cyp
  rw [Int.pow_succ, Int.ediv_ediv_of_nonneg (by omega)]
theorem leN_high (f : Nat → Int) (k : Nat) : ∀ n, leN (k + 1 + n) f / 256 ^ k % 256 = leN (k + 1) f / 256 ^ k % 256
  | 0 => rfl
  | n + 1 => by
    have hP : (0 : Int) < 256 ^ k := Int.pow_pos (by decide)
    rw [← leN_high f k n]
    show (leN (k + 1 + n) f + 256 ^ (k + 1 + n) * f (k + 1 + n)) / 256 ^ k % 256 = _
    have e : (256 : Int) ^ (k + 1 + n) * f (k + 1 + n) = (256 * (256 ^ n * f (k + 1 + n))) * 256 ^ k := by
      rw [show k + 1 + n = n + 1 + k by omega, Int.pow_add, Int.pow_succ]
      generalize (256 : Int) ^ n = p
      generalize (256 : Int) ^ k = q
      grind
    rw [e, Int.add_mul_ediv_right _ _ (by omega)]
    omega
theorem leN_add (f g : Nat → Int) : ∀ n, leN n (fun j => f j + g j) = leN n f + leN n g
  | 0 => rfl
  | n + 1 => by
    show leN n (fun j => f j + g j) + 256 ^ n * (f n + g n) = leN n f + 256 ^ n * f n + (leN n g + 256 ^ n * g n)
    rw [leN_add f g n, Int.mul_add]; omega
theorem rplus16_ok (a b : Nat → Int) (ha : A16 a) (hb : A16 b) : CallOK Try.prog (fun _ => none) 50 [.ex (.agg (ar8 16 a).toArray), .ex (.agg (ar8 16 b).toArray)] [] { val := .ex (.agg (ar8 16 (dig (leN 16 a + leN 16 b))).toArray) } := by
  rw [← leN_add a b 16]
  obtain ⟨f, hf⟩ : ∃ f : Nat → Int, f = fun j => a j + b j := ⟨_, rfl⟩
  rw [← hf]
  refine CallOK.from0 hmix Try.f50 0 fn50 (by kernel_rfl) (by kernel_rfl) (fun wl ρ h1 h2 => ?_)
  refine AG.rk 10 [2, 3, 4, 5, 6, 7] [0, 4, 8, 12] 13 (todo' := [.code (sub (codeOf Try.f50) [1, 1, 1, 0, 1, 0]), .inBlock 0, .code (sub (codeOf Try.f50) [1, 1, 1, 1])]) (st' := ⟨mkT 32 [(2, .p 0 0), (3, .p 4 0), (4, .p 8 0), (5, .p 12 0), (6, .ex (.int .i64 0)), (7, .ex (.int .i64 0))], [(0, .own (ar8 16 a)), (4, .own (ar8 16 b)), (8, .own (List.replicate 16 (Value.int .u8 0))), (12, .own (List.replicate 16 (Value.int .u8 0)))], 13⟩) (by kernel_rfl) (by kernel_rfl) ?_
  refine AG.rk 1 [2, 3, 4, 5, 6, 7] [0, 4, 8, 12] 13 (todo' := [.code (sub (codeOf Try.f50) [1, 1, 1, 0, 1, 0, 0]), .inLoop (sub (codeOf Try.f50) [1, 1, 1, 0, 1, 0, 0]), .inBlock 0, .code (sub (codeOf Try.f50) [1, 1, 1, 1])]) (st' := ⟨mkT 32 [(2, .p 0 0), (3, .p 4 0), (4, .p 8 0), (5, .p 12 0), (6, .ex (.int .i64 0)), (7, .ex (.int .i64 0))], [(0, .own (ar8 16 a)), (4, .own (ar8 16 b)), (8, .own (List.replicate 16 (Value.int .u8 0))), (12, .own (List.replicate 16 (Value.int .u8 0)))], 13⟩) (by kernel_rfl) (by kernel_rfl) ?_
  refine AG.re 12 (.own (ar8 16 (fun _ => 0))) (by kernel_rfl) ?_
  refine AG.indE (α := {x : Nat × (Nat → Int) // x.1 ≤ 16 ∧ ∀ j, j < x.1 → x.2 j = dig (leN 16 f) j}) (fun x => 16 - x.1.1)
    (fun x => ⟨mkT 32 [(2, .p 0 0), (3, .p 4 0), (4, .p 8 0), (5, .p 12 0), (6, .ex (.int .i64 (cyp f x.1.1))), (7, .ex (.int .i64 (x.1.1 : Int)))], [(0, .own (ar8 16 a)), (4, .own (ar8 16 b)), (8, .own (List.replicate 16 (Value.int IntKind.u8 0))), (12, .own (ar8 16 x.1.2))], 13⟩) ⟨(0, fun _ => 0), by simp, fun j hj => by simp at hj⟩ (by simp only [cyp, leN, Int.pow_zero, Int.ediv_one]; kernel_rfl) ?_
  rintro ⟨⟨k, g⟩, hk, hg⟩ ih
  simp only at hk hg ih ⊢
  have hla : (ar8 16 g).length = 16 := length_ar8 _ _
  have hlA : (ar8 16 a).length = 16 := length_ar8 _ _
  have hlB : (ar8 16 b).length = 16 := length_ar8 _ _
  refine AG.rk 3 [2, 3, 4, 5, 6, 7, 10] [0, 4, 8, 12] 13 (todo' := [.code (sub (codeOf Try.f50) [1, 1, 1, 0, 1, 0, 0, 0, 1]), .code (sub (codeOf Try.f50) [1, 1, 1, 0, 1, 0, 0, 1]), .inLoop (sub (codeOf Try.f50) [1, 1, 1, 0, 1, 0, 0]), .inBlock 0, .code (sub (codeOf Try.f50) [1, 1, 1, 1])]) (st' := ⟨mkT 32 [(2, .p 0 0), (3, .p 4 0), (4, .p 8 0), (5, .p 12 0), (6, .ex (.int .i64 (cyp f k))), (7, .ex (.int .i64 (↑k : Int))), (10, .ex (.bool (decide ((↑k : Int) < 16))))], [(0, .own (ar8 16 a)), (4, .own (ar8 16 b)), (8, .own (List.replicate 16 (Value.int .u8 0))), (12, .own (ar8 16 g))], 13⟩) (by kernel_rfl) (by kernel_rfl) ?_
  refine AG.cond (b := decide ((↑k : Int) < 16)) (by kernel_rfl) (fun hc => ?_) (fun hc => ?_)
  · have hk' : k < 16 := by simp at hc; omega
    clear hc
    obtain ⟨s1, s2⟩ := cyp_step f k
    have hf8 : f k = a k + b k := by rw [hf]
    have A := ha k hk'
    have B := hb k hk'
    have hcb : 0 ≤ cyp f k ∧ cyp f k < 2 := by
      have r1 := leN_range k a fun i hi => ha i (by omega)
      have r2 := leN_range k b fun i hi => hb i (by omega)
      have e : leN k f = leN k a + leN k b := by rw [hf]; exact leN_add a b k
      have hP : (0 : Int) < 256 ^ k := Int.pow_pos (by decide)
      unfold cyp
      rw [e]
      exact ⟨Int.ediv_nonneg (by omega) (by omega), Int.ediv_lt_of_lt_mul hP (by omega)⟩
    have hdig : (cyp f k + f k) % 256 = dig (leN 16 f) k := by
      rw [s1]; unfold dig
      have := leN_high f k (16 - (k + 1))
      rw [show k + 1 + (16 - (k + 1)) = 16 by omega] at this
      exact this.symm
    have hd8 : R8 (dig (leN 16 f) k) := r8_dig _ _
    have e5 : IntKind.i64.wrap ((k : Int) + 1) = ((k + 1 : Nat) : Int) := by rw [wrap64_id _ (by omega) (by omega)]; omega
    have ra := get_ar8 16 a (k : Int) (by omega) (by omega)
    have rb := get_ar8 16 b (k : Int) (by omega) (by omega)
    have eP := put_ar8 16 g (k : Int) (by omega) (by omega) (dig (leN 16 f) k)
    have ih := ih ⟨(k + 1, upd g k (dig (leN 16 f) k)), hk', fun j hj => by
      simp only [upd]
      by_cases h : j = k
      · rw [if_pos h, h]
      · rw [if_neg h]; exact hg j (by simp only at hj; omega)⟩ (by simp only; omega)
    simp only at ih
    rw [← s2] at ih
    rw [Int.toNat_natCast] at ra rb eP
    unfold R8 at A B hd8
    have wd : IntKind.u8.wrap (dig (leN 16 f) k) = dig (leN 16 f) k := by rw [wrap_u8]; omega
    rw [hf8] at hdig ih
    generalize dig (leN 16 f) k = D at *
    generalize cyp f k = C at *
    generalize a k = x at *
    generalize b k = y at *
    have w1 : IntKind.i64.wrap x = x := wrap64_id _ (by omega) (by omega)
    have w2 : IntKind.i64.wrap y = y := wrap64_id _ (by omega) (by omega)
    have w3 : IntKind.i64.wrap (x + y) = x + y := wrap64_id _ (by omega) (by omega)
    have w4 : IntKind.i64.wrap (x + y + C) = x + y + C := wrap64_id _ (by omega) (by omega)
    have w5 : (x + y + C).tmod 256 = D := by rw [Int.tmod_eq_emod_of_nonneg (by omega), ← hdig]; congr 1; omega
    have w6 : (x + y + C).tdiv 256 = (C + (x + y)) / 256 := by rw [Int.tdiv_eq_ediv_of_nonneg (by omega)]; congr 1; omega
    have w7 : IntKind.i64.wrap ((C + (x + y)) / 256) = (C + (x + y)) / 256 := wrap64_id _ (by omega) (by omega)
    refine AG.rk 4 [2, 3, 4, 5, 6, 7] [0, 4, 8, 12] 13 (todo' := [.code (sub (codeOf Try.f50) [1, 1, 1, 0, 1, 0, 0, 1, 0, 0, 0]), .code (sub (codeOf Try.f50) [1, 1, 1, 0, 1, 0, 0, 1, 0, 0, 1]), .inBlock 1, .code (sub (codeOf Try.f50) [1, 1, 1, 0, 1, 0, 0, 1, 1]), .inLoop (sub (codeOf Try.f50) [1, 1, 1, 0, 1, 0, 0]), .inBlock 0, .code (sub (codeOf Try.f50) [1, 1, 1, 1])]) (st' := ⟨mkT 32 [(2, .p 0 0), (3, .p 4 0), (4, .p 8 0), (5, .p 12 0), (6, .ex (.int .i64 C)), (7, .ex (.int .i64 (↑k : Int)))], [(0, .own (ar8 16 a)), (4, .own (ar8 16 b)), (8, .own (List.replicate 16 (Value.int .u8 0))), (12, .own (ar8 16 g))], 13⟩) (by kernel_rfl) (by kernel_rfl) ?_
    refine AG.gk [] [(1, { val := .p 0 (0 + k * 1) }), (2, { val := .ex (.int .u8 x) }), (3, { val := .ex (.int .i64 x) }), (5, { val := .p 4 (0 + k * 1) }), (6, { val := .ex (.int .u8 y) }), (7, { val := .ex (.int .i64 y) }), (8, { val := .ex (.int .i64 (x + y)) }), (10, { val := .ex (.int .i64 (x + y + C)) })] [2, 3, 4, 5, 7, 8] [0, 4, 8, 12] 13 (st' := ⟨mkT 32 [(2, .p 0 0), (3, .p 4 0), (4, .p 8 0), (5, .p 12 0), (7, .ex (.int .i64 (↑k : Int))), (8, .ex (.int .i64 (x + y + C)))], [(0, .own (ar8 16 a)), (4, .own (ar8 16 b)), (8, .own (List.replicate 16 (Value.int .u8 0))), (12, .own (ar8 16 g))], 13⟩) (obs := [Ob.eq (.p 0 (0 + Int.toNat (↑k : Int) * 1)) (.p 0 (0 + k * 1)), Ob.ix (↑k : Int) 16, Ob.eq (.ex (List.getD (ar8 16 a) (0 + k * 1) undef)) (.ex (.int .u8 x)), Ob.le (0 + k * 1 + 1) 16, Ob.eq (.ex (.int .i64 (IntKind.wrap .i64 x))) (.ex (.int .i64 x)), Ob.eq (.p 4 (0 + Int.toNat (↑k : Int) * 1)) (.p 4 (0 + k * 1)), Ob.ix (↑k : Int) 16, Ob.eq (.ex (List.getD (ar8 16 b) (0 + k * 1) undef)) (.ex (.int .u8 y)), Ob.le (0 + k * 1 + 1) 16, Ob.eq (.ex (.int .i64 (IntKind.wrap .i64 y))) (.ex (.int .i64 y)), Ob.eq (.ex (.int .i64 (IntKind.wrap .i64 (x + y)))) (.ex (.int .i64 (x + y))), Ob.eq (.ex (.int .i64 (IntKind.wrap .i64 (x + y + C)))) (.ex (.int .i64 (x + y + C)))]) (by kernel_rfl) (by kernel_rfl) ⟨(by simp only [Ob.holds, Int.toNat_natCast, ra, rb, w1, w2, w3, w4, w5, w6, w7, wd, e5]), (by (simp only [Ob.holds]; omega)), (by simp only [Ob.holds, Int.toNat_natCast, ra, rb, w1, w2, w3, w4, w5, w6, w7, wd, e5]), (by (simp only [Ob.holds]; omega)), (by simp only [Ob.holds, Int.toNat_natCast, ra, rb, w1, w2, w3, w4, w5, w6, w7, wd, e5]), (by simp only [Ob.holds, Int.toNat_natCast, ra, rb, w1, w2, w3, w4, w5, w6, w7, wd, e5]), (by (simp only [Ob.holds]; omega)), (by simp only [Ob.holds, Int.toNat_natCast, ra, rb, w1, w2, w3, w4, w5, w6, w7, wd, e5]), (by (simp only [Ob.holds]; omega)), (by simp only [Ob.holds, Int.toNat_natCast, ra, rb, w1, w2, w3, w4, w5, w6, w7, wd, e5]), (by simp only [Ob.holds, Int.toNat_natCast, ra, rb, w1, w2, w3, w4, w5, w6, w7, wd, e5]), (by simp only [Ob.holds, Int.toNat_natCast, ra, rb, w1, w2, w3, w4, w5, w6, w7, wd, e5]), trivial⟩ ?_
    refine AG.rk 1 [2, 3, 4, 5, 7, 8] [0, 4, 8, 12] 13 (todo' := [.code (sub (codeOf Try.f50) [1, 1, 1, 0, 1, 0, 0, 1, 0, 0, 1, 0]), .code (sub (codeOf Try.f50) [1, 1, 1, 0, 1, 0, 0, 1, 0, 0, 1, 1]), .inBlock 1, .code (sub (codeOf Try.f50) [1, 1, 1, 0, 1, 0, 0, 1, 1]), .inLoop (sub (codeOf Try.f50) [1, 1, 1, 0, 1, 0, 0]), .inBlock 0, .code (sub (codeOf Try.f50) [1, 1, 1, 1])]) (st' := ⟨mkT 32 [(2, .p 0 0), (3, .p 4 0), (4, .p 8 0), (5, .p 12 0), (7, .ex (.int .i64 (↑k : Int))), (8, .ex (.int .i64 (x + y + C)))], [(0, .own (ar8 16 a)), (4, .own (ar8 16 b)), (8, .own (List.replicate 16 (Value.int .u8 0))), (12, .own (ar8 16 g))], 13⟩) (by kernel_rfl) (by kernel_rfl) ?_
    refine AG.gk [5] [(2, { val := .ex (.int .i64 D) }), (3, { val := .ex (.int .u8 D) }), (4, { val := .p 12 (0 + k * 1) })] [2, 3, 4, 5, 7, 8] [0, 4, 8, 12] 13 (st' := ⟨mkT 32 [(2, .p 0 0), (3, .p 4 0), (4, .p 8 0), (5, .p 12 0), (7, .ex (.int .i64 (↑k : Int))), (8, .ex (.int .i64 (x + y + C)))], [(0, .own (ar8 16 a)), (4, .own (ar8 16 b)), (8, .own (List.replicate 16 (Value.int .u8 0))), (12, .own (putAt (ar8 16 g) (0 + k * 1) (Value.cells (Value.int .u8 D)).toList))], 13⟩) (obs := [Ob.eq (.ex (.int .i64 (Int.tmod (x + y + C) 256))) (.ex (.int .i64 D)), Ob.le 1 256, Ob.eq (.ex (.int .u8 (IntKind.wrap .u8 D))) (.ex (.int .u8 D)), Ob.eq (.p 12 (0 + Int.toNat (↑k : Int) * 1)) (.p 12 (0 + k * 1)), Ob.ix (↑k : Int) 16, Ob.le (0 + k * 1 + 1) 16, Ob.le 1 1, Ob.le 1 1, Ob.one [Value.int .u8 D]]) (by kernel_rfl) (by kernel_rfl) ⟨(by simp only [Ob.holds, Int.toNat_natCast, ra, rb, w1, w2, w3, w4, w5, w6, w7, wd, e5]), (Ob.holds_of_dec (by kernel_rfl)), (by simp only [Ob.holds, Int.toNat_natCast, ra, rb, w1, w2, w3, w4, w5, w6, w7, wd, e5]), (by simp only [Ob.holds, Int.toNat_natCast, ra, rb, w1, w2, w3, w4, w5, w6, w7, wd, e5]), (by (simp only [Ob.holds]; omega)), (by (simp only [Ob.holds]; omega)), (Ob.holds_of_dec (by kernel_rfl)), (Ob.holds_of_dec (by kernel_rfl)), (by rfl), trivial⟩ ?_
    refine AG.gk [] [(1, { val := .ex (.int .i64 ((C + (x + y)) / 256)) })] [2, 3, 4, 5, 6, 7] [0, 4, 8, 12] 13 (st' := ⟨mkT 32 [(2, .p 0 0), (3, .p 4 0), (4, .p 8 0), (5, .p 12 0), (6, .ex (.int .i64 ((C + (x + y)) / 256))), (7, .ex (.int .i64 (↑k : Int)))], [(0, .own (ar8 16 a)), (4, .own (ar8 16 b)), (8, .own (List.replicate 16 (Value.int .u8 0))), (12, .own (putAt (ar8 16 g) (0 + k * 1) (Value.cells (Value.int .u8 D)).toList))], 13⟩) (obs := [Ob.eq (.ex (.int .i64 (IntKind.wrap .i64 (Int.tdiv (x + y + C) 256)))) (.ex (.int .i64 ((C + (x + y)) / 256))), Ob.le 1 256]) (by kernel_rfl) (by kernel_rfl) ⟨(by simp only [Ob.holds, Int.toNat_natCast, ra, rb, w1, w2, w3, w4, w5, w6, w7, wd, e5]), (Ob.holds_of_dec (by kernel_rfl)), trivial⟩ ?_
    refine AG.rk 1 [2, 3, 4, 5, 6, 7] [0, 4, 8, 12] 13 (todo' := [.code (sub (codeOf Try.f50) [1, 1, 1, 0, 1, 0, 0, 1, 1]), .inLoop (sub (codeOf Try.f50) [1, 1, 1, 0, 1, 0, 0]), .inBlock 0, .code (sub (codeOf Try.f50) [1, 1, 1, 1])]) (st' := ⟨mkT 32 [(2, .p 0 0), (3, .p 4 0), (4, .p 8 0), (5, .p 12 0), (6, .ex (.int .i64 ((C + (x + y)) / 256))), (7, .ex (.int .i64 (↑k : Int)))], [(0, .own (ar8 16 a)), (4, .own (ar8 16 b)), (8, .own (List.replicate 16 (Value.int .u8 0))), (12, .own (putAt (ar8 16 g) (0 + k * 1) (Value.cells (Value.int .u8 D)).toList))], 13⟩) (by kernel_rfl) (by kernel_rfl) ?_
    refine AG.gk [] [(1, { val := .ex (.int .i64 (↑(k + 1) : Int)) })] [2, 3, 4, 5, 6, 7] [0, 4, 8, 12] 13 (st' := ⟨mkT 32 [(2, .p 0 0), (3, .p 4 0), (4, .p 8 0), (5, .p 12 0), (6, .ex (.int .i64 ((C + (x + y)) / 256))), (7, .ex (.int .i64 (↑(k + 1) : Int)))], [(0, .own (ar8 16 a)), (4, .own (ar8 16 b)), (8, .own (List.replicate 16 (Value.int .u8 0))), (12, .own (putAt (ar8 16 g) (0 + k * 1) (Value.cells (Value.int .u8 D)).toList))], 13⟩) (obs := [Ob.eq (.ex (.int .i64 (IntKind.wrap .i64 ((↑k : Int) + 1)))) (.ex (.int .i64 (↑(k + 1) : Int)))]) (by kernel_rfl) (by kernel_rfl) ⟨(by simp only [Ob.holds, Int.toNat_natCast, ra, rb, w1, w2, w3, w4, w5, w6, w7, wd, e5]), trivial⟩ ?_
    refine AG.rk 1 [2, 3, 4, 5, 6, 7] [0, 4, 8, 12] 13 (todo' := [.code (sub (codeOf Try.f50) [1, 1, 1, 0, 1, 0, 0]), .inLoop (sub (codeOf Try.f50) [1, 1, 1, 0, 1, 0, 0]), .inBlock 0, .code (sub (codeOf Try.f50) [1, 1, 1, 1])]) (st' := ⟨mkT 32 [(2, .p 0 0), (3, .p 4 0), (4, .p 8 0), (5, .p 12 0), (6, .ex (.int .i64 ((C + (x + y)) / 256))), (7, .ex (.int .i64 (↑(k + 1) : Int)))], [(0, .own (ar8 16 a)), (4, .own (ar8 16 b)), (8, .own (List.replicate 16 (Value.int .u8 0))), (12, .own (putAt (ar8 16 g) (0 + k * 1) (Value.cells (Value.int .u8 D)).toList))], 13⟩) (by kernel_rfl) (by kernel_rfl) ?_
    rewrite [eP]
    exact ih
  · obtain rfl : k = 16 := by simp at hc; omega
    clear hc ih
    rw [ar8_congr hg]
    refine AG.rk 3 [4] [8] 9 (todo' := [.code (sub (codeOf Try.f50) [1, 1, 1, 1, 1])]) (st' := ⟨mkT 32 [(4, .p 8 0)], [(8, .own (ar8 16 (dig (leN 16 f))))], 9⟩) (by kernel_rfl) (by kernel_rfl) ?_
    refine AG.fin ([.ex (.agg { toList := ar8 16 (dig (leN 16 f)) })]) Go.Proofs.Try.f50 fn50 (.inr ⟨_, rfl⟩) (obs := [Ob.le 16 16]) (by kernel_rfl) ⟨(Ob.holds_of_dec (by kernel_rfl)), trivial⟩ (by kernel_rfl) trivial (by kernel_rfl)
theorem rsum_ok (kb : List Int) (hk : kb.length = 1104) (hk8 : All8 kb) (t : List Int) (ht8 : All8 t) (htl : t.length ≤ 90000) (bs : List Int) (h8 : All8 bs) (hl : bs.length ≤ 90000) : CallOK Try.prog (fun _ => none) 27 [.sv 0 0 kb.length, .sv 1 0 t.length, .sv 2 0 bs.length] [(0, .view (kb.map (Value.int .u8))), (1, .view (t.map (Value.int .u8))), (2, .view (bs.map (Value.int .u8)))] { val := .ex (.agg (ar8 16 (dig (leN 16 (hdF (kA kb) bs.length t) + leN 16 (bdF (kB kb) (wOf (kb.drop 32)) bs)))).toArray) } := by
  have c1 := rhead_ok kb hk hk8 t ht8 htl bs.length (by omega)
  have c2 := rbody_ok kb hk hk8 bs h8 hl
  have c3 := rplus16_ok (hdF (kA kb) bs.length t) (bdF (kB kb) (wOf (kb.drop 32)) bs) (fun j hj => r8_lowv _ j hj) (fun j hj => r8_lowv _ j hj)
  generalize dig (leN 16 (hdF (kA kb) bs.length t) + leN 16 (bdF (kB kb) (wOf (kb.drop 32)) bs)) = S at *
  generalize hdF (kA kb) bs.length t = H at *
  generalize bdF (kB kb) (wOf (kb.drop 32)) bs = B at *
  refine CallOK.from0 hmix Try.f27 3 fn27 (by kernel_rfl) (by kernel_rfl) (fun wl ρ h1 h2 => ?_)
  refine AG.rk 3 [0, 1, 2, 6] [0, 1, 2, 3] 4 (todo' := [.code (sub (codeOf Try.f27) [1, 0]), .code (sub (codeOf Try.f27) [1, 1])]) (st' := ⟨mkT 16 [(0, .sv 0 0 (List.length kb)), (1, .sv 1 0 (List.length t)), (2, .sv 2 0 (List.length bs)), (6, .p 3 0)], [(0, .view (List.map (Value.int .u8) kb)), (1, .view (List.map (Value.int .u8) t)), (2, .view (List.map (Value.int .u8) bs)), (3, .own (List.replicate 16 (Value.int .u8 0)))], 4⟩) (by kernel_rfl) (by kernel_rfl) ?_
  refine AG.gk [] [(4, useR [(0, 0, 0), (1, 1, 0)] 20 ({ val := .ex (.agg (List.toArray (ar8 16 H))) })), (7, useR [(0, 0, 0), (1, 2, 0)] 32 ({ val := .ex (.agg (List.toArray (ar8 16 B))) })), (8, { val := .ex (.agg (List.toArray (ar8 16 S))) })] [6] [0, 1, 2, 3] 4 (st' := ⟨mkT 16 [(6, .p 3 0)], [(0, .view (List.map (Value.int .u8) kb)), (1, .view (List.map (Value.int .u8) t)), (2, .view (List.map (Value.int .u8) bs)), (3, .own (ar8 16 S))], 4⟩) (obs := [Ob.call (fun g => List.lookup g []) 25 [.sv 0 0 (List.length kb), .sv 1 0 (List.length t), .ex (.int .i64 (↑(List.length bs) : Int))] [(0, .view (List.map (Value.int .u8) kb)), (1, .view (List.map (Value.int .u8) t))] (useR [(0, 0, 0), (1, 1, 0)] 20 { val := .ex (.agg (List.toArray (ar8 16 H))) }), Ob.call (fun g => List.lookup g []) 26 [.sv 0 0 (List.length kb), .sv 2 0 (List.length bs)] [(0, .view (List.map (Value.int .u8) kb)), (2, .view (List.map (Value.int .u8) bs))] (useR [(0, 0, 0), (1, 2, 0)] 32 { val := .ex (.agg (List.toArray (ar8 16 B))) }), Ob.call (fun g => List.lookup g []) 50 [.ex (.agg { toList := ar8 16 H }), .ex (.agg { toList := ar8 16 B })] [] { val := .ex (.agg (List.toArray (ar8 16 S))) }]) (by kernel_rfl) (by kernel_rfl) ⟨(CallOK.at0 [(0, 0, 0), (1, 1, 0)] 20 (c1 ) (.cons (.vv rfl) (.cons (.vv rfl) (.cons (.ex _) .nil))) (.cons rfl rfl ⟨_, rfl, (by exact cov_all _)⟩ (.cons rfl rfl ⟨_, rfl, (by exact cov_all _)⟩ .nil)) (by kernel_rfl)), (CallOK.at0 [(0, 0, 0), (1, 2, 0)] 32 (c2 ) (.cons (.vv rfl) (.cons (.vv rfl) .nil)) (.cons rfl rfl ⟨_, rfl, (by exact cov_all _)⟩ (.cons rfl rfl ⟨_, rfl, (by exact cov_all _)⟩ .nil)) (by kernel_rfl)), ((c3 ).gl), trivial⟩ ?_
  refine AG.fin ([.ex (.agg { toList := ar8 16 S })]) Go.Proofs.Try.f27 fn27 (.inr ⟨_, rfl⟩) (obs := [Ob.le 16 16]) (by kernel_rfl) ⟨(Ob.holds_of_dec (by kernel_rfl)), trivial⟩ (by kernel_rfl) trivial (by kernel_rfl)
end Go.Proofs.Ytddnfcgbfpbagaa.Ab
