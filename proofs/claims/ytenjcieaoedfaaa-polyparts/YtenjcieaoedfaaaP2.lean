/- Own: sums and products of layer 7 (no statement is proved here). -/
import Derived.Test.YtenjcieaoedfaaaP1
import Derived.KernelRfl
namespace Go.Proofs.Ytenjcieaoedfaaa.Ab
open Go.Proofs
set_option linter.unusedSimpArgs false
theorem fn21 : Try.prog.funcs[21]? = some Try.f21 := by kernel_rfl
theorem fn15 : Try.prog.funcs[15]? = some Try.f15 := by kernel_rfl
theorem fn23 : Try.prog.funcs[23]? = some Try.f23 := by kernel_rfl
def R5 (n : Nat → Int) : Prop := ∀ i, i < 5 → 0 ≤ n i ∧ n i < 4294967296
def ps (n m : Nat → Int) (i : Nat) : Int := IntKind.u64.wrap (IntKind.u64.wrap (n i) + IntKind.u64.wrap (m i))
theorem ps_eq (n m : Nat → Int) (hn : R5 n) (hm : R5 m) (i : Nat) (hi : i < 5) : ps n m i = n i + m i := by
  have := hn i hi; have := hm i hi
  unfold ps; rw [wrap_u64, wrap_u64, wrap_u64]; omega
theorem ps_fit (n m : Nat → Int) (hn : R5 n) (hm : R5 m) : Fit5 (ps n m) := fun i hi => by
  have := hn i hi; have := hm i hi
  rw [ps_eq n m hn hm i hi]; omega
theorem ps_V (n m : Nat → Int) (hn : R5 n) (hm : R5 m) : V (ps n m) = V n + V m := by
  unfold V
  rw [ps_eq n m hn hm 0 (by decide), ps_eq n m hn hm 1 (by decide), ps_eq n m hn hm 2 (by decide), ps_eq n m hn hm 3 (by decide), ps_eq n m hn hm 4 (by decide)]
  omega
theorem V_congr {n m : Nat → Int} (h : ∀ i, i < 5 → n i = m i) : V n = V m := by
  unfold V; rw [h 0 (by decide), h 1 (by decide), h 2 (by decide), h 3 (by decide), h 4 (by decide)]
theorem plus_ok (n m : Nat → Int) (hn : R5 n) (hm : R5 m) : CallOK Try.prog (fun _ => none) 21 [.ex (.agg (ar32 5 n).toArray), .ex (.agg (ar32 5 m).toArray)] [] { val := .ex (.agg (ar32 5 (prts ((V n + V m) % PP))).toArray) } := by
  have hf := ps_fit n m hn hm
  rw [← ps_V n m hn hm]
  refine CallOK.from0 hmix Try.f21 0 fn21 (by kernel_rfl) (by kernel_rfl) (fun w ρ h1 h2 => ?_)
  refine AG.rk 80 [4, 5] [8, 12] 13 (todo' := [.code (sub (codeOf Try.f21) [1, 1, 1, 0]), .code (sub (codeOf Try.f21) [1, 1, 1, 1])]) (st' := ⟨mkT 24 [(4, .p 8 0), (5, .p 12 0)], [(8, .own [Value.int .u32 0, Value.int .u32 0, Value.int .u32 0, Value.int .u32 0, Value.int .u32 0]), (12, .own [Value.int .u64 (ps n m 0), Value.int .u64 (ps n m 1), Value.int .u64 (ps n m 2), Value.int .u64 (ps n m 3), Value.int .u64 (ps n m 4)])], 13⟩) (by kernel_rfl) (by kernel_rfl) ?_
  refine AG.gk [] [(1, { val := .ex (.agg (List.toArray (ar32 5 (prts (V (ps n m) % PP))))) })] [4] [8] 9 (st' := ⟨mkT 24 [(4, .p 8 0)], [(8, .own [Value.int .u32 (prts (V (ps n m) % 1361129467683753853853498429727072845819) 0), Value.int .u32 (prts (V (ps n m) % 1361129467683753853853498429727072845819) 1), Value.int .u32 (prts (V (ps n m) % 1361129467683753853853498429727072845819) 2), Value.int .u32 (prts (V (ps n m) % 1361129467683753853853498429727072845819) 3), Value.int .u32 (prts (V (ps n m) % 1361129467683753853853498429727072845819) 4)])], 9⟩) (obs := [Ob.call (fun g => List.lookup g []) 20 [.ex (.agg { toList := [Value.int .u64 (ps n m 0), Value.int .u64 (ps n m 1), Value.int .u64 (ps n m 2), Value.int .u64 (ps n m 3), Value.int .u64 (ps n m 4)] })] [] { val := .ex (.agg (List.toArray (ar32 5 (prts (V (ps n m) % PP))))) }]) (by kernel_rfl) (by kernel_rfl) ⟨((Go.Proofs.Ytenjcieaoedfaaa.Ab.formed_ok (ps n m) hf).gl), trivial⟩ ?_
  refine AG.fin ([.ex (.agg { toList := [Value.int .u32 (prts (V (ps n m) % 1361129467683753853853498429727072845819) 0), Value.int .u32 (prts (V (ps n m) % 1361129467683753853853498429727072845819) 1), Value.int .u32 (prts (V (ps n m) % 1361129467683753853853498429727072845819) 2), Value.int .u32 (prts (V (ps n m) % 1361129467683753853853498429727072845819) 3), Value.int .u32 (prts (V (ps n m) % 1361129467683753853853498429727072845819) 4)] })]) Go.Proofs.Try.f21 fn21 (.inr ⟨_, rfl⟩) (obs := [Ob.le 5 5]) (by kernel_rfl) ⟨(Ob.holds_of_dec (by kernel_rfl)), trivial⟩ (by kernel_rfl) trivial (by kernel_rfl)
theorem R5_zero : R5 (arf [0, 0, 0, 0, 0]) := fun i hi => by
  match i, hi with
  | 0, _ => decide
  | 1, _ => decide
  | 2, _ => decide
  | 3, _ => decide
  | 4, _ => decide
theorem form_ok (n : Nat → Int) (hn : R5 n) : CallOK Try.prog (fun _ => none) 15 [.ex (.agg (ar32 5 n).toArray)] [] { val := .ex (.agg (ar32 5 (prts (V n % PP))).toArray) } := by
  have hz := R5_zero
  have e : V n = V n + V (arf [0, 0, 0, 0, 0]) := by show _ = V n + 0; omega
  rw [e]
  refine CallOK.from0 hmix Try.f15 0 fn15 (by kernel_rfl) (by kernel_rfl) (fun w ρ h1 h2 => ?_)
  refine AG.rk 3 [1, 2] [0, 4] 5 (todo' := [.code (sub (codeOf Try.f15) [1, 0]), .code (sub (codeOf Try.f15) [1, 1])]) (st' := ⟨mkT 6 [(1, .p 0 0), (2, .p 4 0)], [(0, .own [Value.int .u32 (n 0), Value.int .u32 (n 1), Value.int .u32 (n 2), Value.int .u32 (n 3), Value.int .u32 (n 4)]), (4, .own [Value.int .u32 0, Value.int .u32 0, Value.int .u32 0, Value.int .u32 0, Value.int .u32 0])], 5⟩) (by kernel_rfl) (by kernel_rfl) ?_
  refine AG.gk [] [(2, { val := .ex (.agg (List.toArray (ar32 5 (prts ((V n + V (arf [0, 0, 0, 0, 0])) % PP))))) })] [2] [4] 5 (st' := ⟨mkT 6 [(2, .p 4 0)], [(4, .own [Value.int .u32 (prts ((V n + 0) % 1361129467683753853853498429727072845819) 0), Value.int .u32 (prts ((V n + 0) % 1361129467683753853853498429727072845819) 1), Value.int .u32 (prts ((V n + 0) % 1361129467683753853853498429727072845819) 2), Value.int .u32 (prts ((V n + 0) % 1361129467683753853853498429727072845819) 3), Value.int .u32 (prts ((V n + 0) % 1361129467683753853853498429727072845819) 4)])], 5⟩) (obs := [Ob.call (fun g => List.lookup g []) 21 [.ex (.agg { toList := [Value.int .u32 (n 0), Value.int .u32 (n 1), Value.int .u32 (n 2), Value.int .u32 (n 3), Value.int .u32 (n 4)] }), .ex (.agg { toList := [Value.int .u32 0, Value.int .u32 0, Value.int .u32 0, Value.int .u32 0, Value.int .u32 0] })] [] { val := .ex (.agg (List.toArray (ar32 5 (prts ((V n + V (arf [0, 0, 0, 0, 0])) % PP))))) }]) (by kernel_rfl) (by kernel_rfl) ⟨((Go.Proofs.Ytenjcieaoedfaaa.Ab.plus_ok (n) (arf [0, 0, 0, 0, 0]) hn hz).gl), trivial⟩ ?_
  refine AG.fin ([.ex (.agg { toList := [Value.int .u32 (prts ((V n + 0) % 1361129467683753853853498429727072845819) 0), Value.int .u32 (prts ((V n + 0) % 1361129467683753853853498429727072845819) 1), Value.int .u32 (prts ((V n + 0) % 1361129467683753853853498429727072845819) 2), Value.int .u32 (prts ((V n + 0) % 1361129467683753853853498429727072845819) 3), Value.int .u32 (prts ((V n + 0) % 1361129467683753853853498429727072845819) 4)] })]) Go.Proofs.Try.f15 fn15 (.inr ⟨_, rfl⟩) (obs := [Ob.le 5 5]) (by kernel_rfl) ⟨(Ob.holds_of_dec (by kernel_rfl)), trivial⟩ (by kernel_rfl) trivial (by kernel_rfl)
/-- A number of five parts, in form. -/
theorem prts_low (v : Int) (i : Nat) : 0 ≤ prts v i ∧ prts v i < 67108864 := by unfold prts; omega
theorem prts_R5 (v : Int) : R5 (prts v) := fun i _ => by have := prts_low v i; omega
theorem V_prts (v : Int) (h : 0 ≤ v) (h' : v < 1361129467683753853853498429727072845824) : V (prts v) = v := by
  unfold V
  have e0 : prts v 0 = v % 67108864 := by show _ / (1 : Int) % _ = _; omega
  have e1 : prts v 1 = v / 67108864 % 67108864 := rfl
  have e2 : prts v 2 = v / 4503599627370496 % 67108864 := rfl
  have e3 : prts v 3 = v / 302231454903657293676544 % 67108864 := rfl
  have e4 : prts v 4 = v / 20282409603651670423947251286016 % 67108864 := rfl
  rw [e0, e1, e2, e3, e4]
  omega
theorem mod_PP (v : Int) : 0 ≤ v % PP ∧ v % PP < PP := ⟨Int.emod_nonneg _ (by decide), Int.emod_lt_of_pos _ (by decide)⟩
theorem V_mod (v : Int) : V (prts (v % PP)) = v % PP := by
  have h := mod_PP v
  have : PP = 1361129467683753853853498429727072845819 := rfl
  exact V_prts _ h.1 (by omega)
def pr (n m : Nat → Int) (i j : Nat) : Int := IntKind.u64.wrap (IntKind.u64.wrap (n i) * IntKind.u64.wrap (m j))
def tms (N M : Nat → Int) : Nat → Int := arf [IntKind.u64.wrap (IntKind.u64.wrap (IntKind.u64.wrap (IntKind.u64.wrap (IntKind.u64.wrap (0 + pr N M 0 0) + IntKind.u64.wrap (pr N M 1 4 * 5)) + IntKind.u64.wrap (pr N M 2 3 * 5)) + IntKind.u64.wrap (pr N M 3 2 * 5)) + IntKind.u64.wrap (pr N M 4 1 * 5)), IntKind.u64.wrap (IntKind.u64.wrap (IntKind.u64.wrap (IntKind.u64.wrap (IntKind.u64.wrap (0 + pr N M 0 1) + pr N M 1 0) + IntKind.u64.wrap (pr N M 2 4 * 5)) + IntKind.u64.wrap (pr N M 3 3 * 5)) + IntKind.u64.wrap (pr N M 4 2 * 5)), IntKind.u64.wrap (IntKind.u64.wrap (IntKind.u64.wrap (IntKind.u64.wrap (IntKind.u64.wrap (0 + pr N M 0 2) + pr N M 1 1) + pr N M 2 0) + IntKind.u64.wrap (pr N M 3 4 * 5)) + IntKind.u64.wrap (pr N M 4 3 * 5)), IntKind.u64.wrap (IntKind.u64.wrap (IntKind.u64.wrap (IntKind.u64.wrap (IntKind.u64.wrap (0 + pr N M 0 3) + pr N M 1 2) + pr N M 2 1) + pr N M 3 0) + IntKind.u64.wrap (pr N M 4 4 * 5)), IntKind.u64.wrap (IntKind.u64.wrap (IntKind.u64.wrap (IntKind.u64.wrap (IntKind.u64.wrap (0 + pr N M 0 4) + pr N M 1 3) + pr N M 2 2) + pr N M 3 1) + pr N M 4 0)]
theorem mul_bound {x y : Int} (hx : 0 ≤ x ∧ x < 67108864) (hy : 0 ≤ y ∧ y < 67108864) : 0 ≤ x * y ∧ x * y < 4503599627370496 := by
  refine ⟨Int.mul_nonneg hx.1 hy.1, ?_⟩
  calc x * y ≤ 67108863 * y := Int.mul_le_mul_of_nonneg_right (by omega) hy.1
    _ < 4503599627370496 := by omega
theorem pr_eq (N M : Nat → Int) (hN : Low5 N) (hM : Low5 M) (i j : Nat) (hi : i < 5) (hj : j < 5) : pr N M i j = N i * M j := by
  have h1 := hN i hi; have h2 := hM j hj
  have hb := mul_bound h1 h2
  unfold pr
  have a : IntKind.u64.wrap (N i) = N i := by rw [wrap_u64]; omega
  have b : IntKind.u64.wrap (M j) = M j := by rw [wrap_u64]; omega
  rw [a, b, wrap_u64]; omega
theorem tms_eqs (N M : Nat → Int) (hN : Low5 N) (hM : Low5 M) : tms N M 0 = (N 0 * M 0) + 5 * (N 1 * M 4) + 5 * (N 2 * M 3) + 5 * (N 3 * M 2) + 5 * (N 4 * M 1) ∧ tms N M 1 = (N 0 * M 1) + (N 1 * M 0) + 5 * (N 2 * M 4) + 5 * (N 3 * M 3) + 5 * (N 4 * M 2) ∧ tms N M 2 = (N 0 * M 2) + (N 1 * M 1) + (N 2 * M 0) + 5 * (N 3 * M 4) + 5 * (N 4 * M 3) ∧ tms N M 3 = (N 0 * M 3) + (N 1 * M 2) + (N 2 * M 1) + (N 3 * M 0) + 5 * (N 4 * M 4) ∧ tms N M 4 = (N 0 * M 4) + (N 1 * M 3) + (N 2 * M 2) + (N 3 * M 1) + (N 4 * M 0) := by
  have b00 := mul_bound (hN 0 (by decide)) (hM 0 (by decide))
  have p00 := pr_eq N M hN hM 0 0 (by decide) (by decide)
  have b14 := mul_bound (hN 1 (by decide)) (hM 4 (by decide))
  have p14 := pr_eq N M hN hM 1 4 (by decide) (by decide)
  have b23 := mul_bound (hN 2 (by decide)) (hM 3 (by decide))
  have p23 := pr_eq N M hN hM 2 3 (by decide) (by decide)
  have b32 := mul_bound (hN 3 (by decide)) (hM 2 (by decide))
  have p32 := pr_eq N M hN hM 3 2 (by decide) (by decide)
  have b41 := mul_bound (hN 4 (by decide)) (hM 1 (by decide))
  have p41 := pr_eq N M hN hM 4 1 (by decide) (by decide)
  have b01 := mul_bound (hN 0 (by decide)) (hM 1 (by decide))
  have p01 := pr_eq N M hN hM 0 1 (by decide) (by decide)
  have b10 := mul_bound (hN 1 (by decide)) (hM 0 (by decide))
  have p10 := pr_eq N M hN hM 1 0 (by decide) (by decide)
  have b24 := mul_bound (hN 2 (by decide)) (hM 4 (by decide))
  have p24 := pr_eq N M hN hM 2 4 (by decide) (by decide)
  have b33 := mul_bound (hN 3 (by decide)) (hM 3 (by decide))
  have p33 := pr_eq N M hN hM 3 3 (by decide) (by decide)
  have b42 := mul_bound (hN 4 (by decide)) (hM 2 (by decide))
  have p42 := pr_eq N M hN hM 4 2 (by decide) (by decide)
  have b02 := mul_bound (hN 0 (by decide)) (hM 2 (by decide))
  have p02 := pr_eq N M hN hM 0 2 (by decide) (by decide)
  have b11 := mul_bound (hN 1 (by decide)) (hM 1 (by decide))
  have p11 := pr_eq N M hN hM 1 1 (by decide) (by decide)
  have b20 := mul_bound (hN 2 (by decide)) (hM 0 (by decide))
  have p20 := pr_eq N M hN hM 2 0 (by decide) (by decide)
  have b34 := mul_bound (hN 3 (by decide)) (hM 4 (by decide))
  have p34 := pr_eq N M hN hM 3 4 (by decide) (by decide)
  have b43 := mul_bound (hN 4 (by decide)) (hM 3 (by decide))
  have p43 := pr_eq N M hN hM 4 3 (by decide) (by decide)
  have b03 := mul_bound (hN 0 (by decide)) (hM 3 (by decide))
  have p03 := pr_eq N M hN hM 0 3 (by decide) (by decide)
  have b12 := mul_bound (hN 1 (by decide)) (hM 2 (by decide))
  have p12 := pr_eq N M hN hM 1 2 (by decide) (by decide)
  have b21 := mul_bound (hN 2 (by decide)) (hM 1 (by decide))
  have p21 := pr_eq N M hN hM 2 1 (by decide) (by decide)
  have b30 := mul_bound (hN 3 (by decide)) (hM 0 (by decide))
  have p30 := pr_eq N M hN hM 3 0 (by decide) (by decide)
  have b44 := mul_bound (hN 4 (by decide)) (hM 4 (by decide))
  have p44 := pr_eq N M hN hM 4 4 (by decide) (by decide)
  have b04 := mul_bound (hN 0 (by decide)) (hM 4 (by decide))
  have p04 := pr_eq N M hN hM 0 4 (by decide) (by decide)
  have b13 := mul_bound (hN 1 (by decide)) (hM 3 (by decide))
  have p13 := pr_eq N M hN hM 1 3 (by decide) (by decide)
  have b22 := mul_bound (hN 2 (by decide)) (hM 2 (by decide))
  have p22 := pr_eq N M hN hM 2 2 (by decide) (by decide)
  have b31 := mul_bound (hN 3 (by decide)) (hM 1 (by decide))
  have p31 := pr_eq N M hN hM 3 1 (by decide) (by decide)
  have b40 := mul_bound (hN 4 (by decide)) (hM 0 (by decide))
  have p40 := pr_eq N M hN hM 4 0 (by decide) (by decide)
  generalize N 0 * M 0 = a00 at b00 p00 ⊢
  generalize N 0 * M 1 = a01 at b01 p01 ⊢
  generalize N 0 * M 2 = a02 at b02 p02 ⊢
  generalize N 0 * M 3 = a03 at b03 p03 ⊢
  generalize N 0 * M 4 = a04 at b04 p04 ⊢
  generalize N 1 * M 0 = a10 at b10 p10 ⊢
  generalize N 1 * M 1 = a11 at b11 p11 ⊢
  generalize N 1 * M 2 = a12 at b12 p12 ⊢
  generalize N 1 * M 3 = a13 at b13 p13 ⊢
  generalize N 1 * M 4 = a14 at b14 p14 ⊢
  generalize N 2 * M 0 = a20 at b20 p20 ⊢
  generalize N 2 * M 1 = a21 at b21 p21 ⊢
  generalize N 2 * M 2 = a22 at b22 p22 ⊢
  generalize N 2 * M 3 = a23 at b23 p23 ⊢
  generalize N 2 * M 4 = a24 at b24 p24 ⊢
  generalize N 3 * M 0 = a30 at b30 p30 ⊢
  generalize N 3 * M 1 = a31 at b31 p31 ⊢
  generalize N 3 * M 2 = a32 at b32 p32 ⊢
  generalize N 3 * M 3 = a33 at b33 p33 ⊢
  generalize N 3 * M 4 = a34 at b34 p34 ⊢
  generalize N 4 * M 0 = a40 at b40 p40 ⊢
  generalize N 4 * M 1 = a41 at b41 p41 ⊢
  generalize N 4 * M 2 = a42 at b42 p42 ⊢
  generalize N 4 * M 3 = a43 at b43 p43 ⊢
  generalize N 4 * M 4 = a44 at b44 p44 ⊢
  refine ⟨?_, ?_, ?_, ?_, ?_⟩
  · show IntKind.u64.wrap (IntKind.u64.wrap (IntKind.u64.wrap (IntKind.u64.wrap (IntKind.u64.wrap (0 + pr N M 0 0) + IntKind.u64.wrap (pr N M 1 4 * 5)) + IntKind.u64.wrap (pr N M 2 3 * 5)) + IntKind.u64.wrap (pr N M 3 2 * 5)) + IntKind.u64.wrap (pr N M 4 1 * 5)) = _
    rw [p00, p14, p23, p32, p41]
    clear p01 b01 p02 b02 p03 b03 p04 b04 p10 b10 p11 b11 p12 b12 p13 b13 p20 b20 p21 b21 p22 b22 p24 b24 p30 b30 p31 b31 p33 b33 p34 b34 p40 b40 p42 b42 p43 b43 p44 b44
    simp only [wrap_u64]
    omega
  · show IntKind.u64.wrap (IntKind.u64.wrap (IntKind.u64.wrap (IntKind.u64.wrap (IntKind.u64.wrap (0 + pr N M 0 1) + pr N M 1 0) + IntKind.u64.wrap (pr N M 2 4 * 5)) + IntKind.u64.wrap (pr N M 3 3 * 5)) + IntKind.u64.wrap (pr N M 4 2 * 5)) = _
    rw [p01, p10, p24, p33, p42]
    clear p00 b00 p02 b02 p03 b03 p04 b04 p11 b11 p12 b12 p13 b13 p14 b14 p20 b20 p21 b21 p22 b22 p23 b23 p30 b30 p31 b31 p32 b32 p34 b34 p40 b40 p41 b41 p43 b43 p44 b44
    simp only [wrap_u64]
    omega
  · show IntKind.u64.wrap (IntKind.u64.wrap (IntKind.u64.wrap (IntKind.u64.wrap (IntKind.u64.wrap (0 + pr N M 0 2) + pr N M 1 1) + pr N M 2 0) + IntKind.u64.wrap (pr N M 3 4 * 5)) + IntKind.u64.wrap (pr N M 4 3 * 5)) = _
    rw [p02, p11, p20, p34, p43]
    clear p00 b00 p01 b01 p03 b03 p04 b04 p10 b10 p12 b12 p13 b13 p14 b14 p21 b21 p22 b22 p23 b23 p24 b24 p30 b30 p31 b31 p32 b32 p33 b33 p40 b40 p41 b41 p42 b42 p44 b44
    simp only [wrap_u64]
    omega
  · show IntKind.u64.wrap (IntKind.u64.wrap (IntKind.u64.wrap (IntKind.u64.wrap (IntKind.u64.wrap (0 + pr N M 0 3) + pr N M 1 2) + pr N M 2 1) + pr N M 3 0) + IntKind.u64.wrap (pr N M 4 4 * 5)) = _
    rw [p03, p12, p21, p30, p44]
    clear p00 b00 p01 b01 p02 b02 p04 b04 p10 b10 p11 b11 p13 b13 p14 b14 p20 b20 p22 b22 p23 b23 p24 b24 p31 b31 p32 b32 p33 b33 p34 b34 p40 b40 p41 b41 p42 b42 p43 b43
    simp only [wrap_u64]
    omega
  · show IntKind.u64.wrap (IntKind.u64.wrap (IntKind.u64.wrap (IntKind.u64.wrap (IntKind.u64.wrap (0 + pr N M 0 4) + pr N M 1 3) + pr N M 2 2) + pr N M 3 1) + pr N M 4 0) = _
    rw [p04, p13, p22, p31, p40]
    clear p00 b00 p01 b01 p02 b02 p03 b03 p10 b10 p11 b11 p12 b12 p14 b14 p20 b20 p21 b21 p23 b23 p24 b24 p30 b30 p32 b32 p33 b33 p34 b34 p41 b41 p42 b42 p43 b43 p44 b44
    simp only [wrap_u64]
    omega
theorem tms_fit (N M : Nat → Int) (hN : Low5 N) (hM : Low5 M) : Fit5 (tms N M) := by
  obtain ⟨e0, e1, e2, e3, e4⟩ := tms_eqs N M hN hM
  have b00 := mul_bound (hN 0 (by decide)) (hM 0 (by decide))
  have b14 := mul_bound (hN 1 (by decide)) (hM 4 (by decide))
  have b23 := mul_bound (hN 2 (by decide)) (hM 3 (by decide))
  have b32 := mul_bound (hN 3 (by decide)) (hM 2 (by decide))
  have b41 := mul_bound (hN 4 (by decide)) (hM 1 (by decide))
  have b01 := mul_bound (hN 0 (by decide)) (hM 1 (by decide))
  have b10 := mul_bound (hN 1 (by decide)) (hM 0 (by decide))
  have b24 := mul_bound (hN 2 (by decide)) (hM 4 (by decide))
  have b33 := mul_bound (hN 3 (by decide)) (hM 3 (by decide))
  have b42 := mul_bound (hN 4 (by decide)) (hM 2 (by decide))
  have b02 := mul_bound (hN 0 (by decide)) (hM 2 (by decide))
  have b11 := mul_bound (hN 1 (by decide)) (hM 1 (by decide))
  have b20 := mul_bound (hN 2 (by decide)) (hM 0 (by decide))
  have b34 := mul_bound (hN 3 (by decide)) (hM 4 (by decide))
  have b43 := mul_bound (hN 4 (by decide)) (hM 3 (by decide))
  have b03 := mul_bound (hN 0 (by decide)) (hM 3 (by decide))
  have b12 := mul_bound (hN 1 (by decide)) (hM 2 (by decide))
  have b21 := mul_bound (hN 2 (by decide)) (hM 1 (by decide))
  have b30 := mul_bound (hN 3 (by decide)) (hM 0 (by decide))
  have b44 := mul_bound (hN 4 (by decide)) (hM 4 (by decide))
  have b04 := mul_bound (hN 0 (by decide)) (hM 4 (by decide))
  have b13 := mul_bound (hN 1 (by decide)) (hM 3 (by decide))
  have b22 := mul_bound (hN 2 (by decide)) (hM 2 (by decide))
  have b31 := mul_bound (hN 3 (by decide)) (hM 1 (by decide))
  have b40 := mul_bound (hN 4 (by decide)) (hM 0 (by decide))
  intro i hi
  match i, hi with
  | 0, _ => rw [e0]; omega
  | 1, _ => rw [e1]; omega
  | 2, _ => rw [e2]; omega
  | 3, _ => rw [e3]; omega
  | 4, _ => rw [e4]; omega
theorem prod_id (N M : Nat → Int) : V N * V M = ((N 0 * M 0) + 5 * (N 1 * M 4) + 5 * (N 2 * M 3) + 5 * (N 3 * M 2) + 5 * (N 4 * M 1)) + 67108864 * ((N 0 * M 1) + (N 1 * M 0) + 5 * (N 2 * M 4) + 5 * (N 3 * M 3) + 5 * (N 4 * M 2)) + 4503599627370496 * ((N 0 * M 2) + (N 1 * M 1) + (N 2 * M 0) + 5 * (N 3 * M 4) + 5 * (N 4 * M 3)) + 302231454903657293676544 * ((N 0 * M 3) + (N 1 * M 2) + (N 2 * M 1) + (N 3 * M 0) + 5 * (N 4 * M 4)) + 20282409603651670423947251286016 * ((N 0 * M 4) + (N 1 * M 3) + (N 2 * M 2) + (N 3 * M 1) + (N 4 * M 0)) + (((N 1 * M 4) + (N 2 * M 3) + (N 3 * M 2) + (N 4 * M 1)) + 67108864 * ((N 2 * M 4) + (N 3 * M 3) + (N 4 * M 2)) + 4503599627370496 * ((N 3 * M 4) + (N 4 * M 3)) + 302231454903657293676544 * ((N 4 * M 4))) * 1361129467683753853853498429727072845819 := by
  unfold V
  generalize N 0 = n0; generalize N 1 = n1; generalize N 2 = n2; generalize N 3 = n3; generalize N 4 = n4
  generalize M 0 = m0; generalize M 1 = m1; generalize M 2 = m2; generalize M 3 = m3; generalize M 4 = m4
  grind
theorem tms_V (N M : Nat → Int) (hN : Low5 N) (hM : Low5 M) : V (tms N M) % PP = (V N * V M) % PP := by
  obtain ⟨e0, e1, e2, e3, e4⟩ := tms_eqs N M hN hM
  rw [prod_id N M]
  show _ = (_ + _ * PP) % PP
  rw [Int.add_mul_emod_self_right]
  congr 1
  unfold V
  rw [e0, e1, e2, e3, e4]
theorem times_ok (n m : Nat → Int) (hn : R5 n) (hm : R5 m) : CallOK Try.prog (fun _ => none) 23 [.ex (.agg (ar32 5 n).toArray), .ex (.agg (ar32 5 m).toArray)] [] { val := .ex (.agg (ar32 5 (prts ((V n * V m) % PP))).toArray) } := by
  obtain ⟨N, lN, vN, cN⟩ : ∃ N : Nat → Int, Low5 N ∧ V N = V n % PP ∧ CallOK Try.prog (fun _ => none) 15 [.ex (.agg (ar32 5 n).toArray)] [] { val := .ex (.agg (ar32 5 N).toArray) } := ⟨_, fun i _ => prts_low _ i, V_mod _, form_ok n hn⟩
  obtain ⟨M, lM, vM, cM⟩ : ∃ M : Nat → Int, Low5 M ∧ V M = V m % PP ∧ CallOK Try.prog (fun _ => none) 15 [.ex (.agg (ar32 5 m).toArray)] [] { val := .ex (.agg (ar32 5 M).toArray) } := ⟨_, fun i _ => prts_low _ i, V_mod _, form_ok m hm⟩
  have hf := tms_fit _ _ lN lM
  have hv := tms_V _ _ lN lM
  rw [vN, vM, ← Int.mul_emod] at hv
  rw [← hv]
  clear lN lM hv vN vM hn hm
  unfold tms at hf ⊢
  refine CallOK.from0 hmix Try.f23 0 fn23 (by kernel_rfl) (by kernel_rfl) (fun w ρ h1 h2 => ?_)
  refine AG.rk 3 [2, 3, 4] [0, 4, 8] 9 (todo' := [.code (sub (codeOf Try.f23) [1, 0]), .code (sub (codeOf Try.f23) [1, 1])]) (st' := ⟨mkT 47 [(2, .p 0 0), (3, .p 4 0), (4, .p 8 0)], [(0, .own [Value.int .u32 (n 0), Value.int .u32 (n 1), Value.int .u32 (n 2), Value.int .u32 (n 3), Value.int .u32 (n 4)]), (4, .own [Value.int .u32 (m 0), Value.int .u32 (m 1), Value.int .u32 (m 2), Value.int .u32 (m 3), Value.int .u32 (m 4)]), (8, .own [Value.int .u32 0, Value.int .u32 0, Value.int .u32 0, Value.int .u32 0, Value.int .u32 0])], 9⟩) (by kernel_rfl) (by kernel_rfl) ?_
  refine AG.gk [] [(1, { val := .ex (.agg (List.toArray (ar32 5 N))) }), (3, { val := .ex (.agg (List.toArray (ar32 5 M))) })] [2, 3, 4] [0, 4, 8] 9 (st' := ⟨mkT 47 [(2, .p 0 0), (3, .p 4 0), (4, .p 8 0)], [(0, .own [Value.int .u32 (N 0), Value.int .u32 (N 1), Value.int .u32 (N 2), Value.int .u32 (N 3), Value.int .u32 (N 4)]), (4, .own [Value.int .u32 (M 0), Value.int .u32 (M 1), Value.int .u32 (M 2), Value.int .u32 (M 3), Value.int .u32 (M 4)]), (8, .own [Value.int .u32 0, Value.int .u32 0, Value.int .u32 0, Value.int .u32 0, Value.int .u32 0])], 9⟩) (obs := [Ob.call (fun g => List.lookup g []) 15 [.ex (.agg { toList := [Value.int .u32 (n 0), Value.int .u32 (n 1), Value.int .u32 (n 2), Value.int .u32 (n 3), Value.int .u32 (n 4)] })] [] { val := .ex (.agg (List.toArray (ar32 5 N))) }, Ob.call (fun g => List.lookup g []) 15 [.ex (.agg { toList := [Value.int .u32 (m 0), Value.int .u32 (m 1), Value.int .u32 (m 2), Value.int .u32 (m 3), Value.int .u32 (m 4)] })] [] { val := .ex (.agg (List.toArray (ar32 5 M))) }]) (by kernel_rfl) (by kernel_rfl) ⟨((cN ).gl), ((cM ).gl), trivial⟩ ?_
  refine AG.rk 618 [4, 5] [8, 9] 10 (todo' := [.code (sub (codeOf Try.f23) [1, 1, 1, 1, 0]), .code (sub (codeOf Try.f23) [1, 1, 1, 1, 1])]) (st' := ⟨mkT 47 [(4, .p 8 0), (5, .p 9 0)], [(8, .own [Value.int .u32 0, Value.int .u32 0, Value.int .u32 0, Value.int .u32 0, Value.int .u32 0]), (9, .own [Value.int .u64 (IntKind.wrap .u64 (IntKind.wrap .u64 (IntKind.wrap .u64 (IntKind.wrap .u64 (IntKind.wrap .u64 (0 + pr N M 0 0) + IntKind.wrap .u64 (pr N M 1 4 * 5)) + IntKind.wrap .u64 (pr N M 2 3 * 5)) + IntKind.wrap .u64 (pr N M 3 2 * 5)) + IntKind.wrap .u64 (pr N M 4 1 * 5))), Value.int .u64 (IntKind.wrap .u64 (IntKind.wrap .u64 (IntKind.wrap .u64 (IntKind.wrap .u64 (IntKind.wrap .u64 (0 + pr N M 0 1) + pr N M 1 0) + IntKind.wrap .u64 (pr N M 2 4 * 5)) + IntKind.wrap .u64 (pr N M 3 3 * 5)) + IntKind.wrap .u64 (pr N M 4 2 * 5))), Value.int .u64 (IntKind.wrap .u64 (IntKind.wrap .u64 (IntKind.wrap .u64 (IntKind.wrap .u64 (IntKind.wrap .u64 (0 + pr N M 0 2) + pr N M 1 1) + pr N M 2 0) + IntKind.wrap .u64 (pr N M 3 4 * 5)) + IntKind.wrap .u64 (pr N M 4 3 * 5))), Value.int .u64 (IntKind.wrap .u64 (IntKind.wrap .u64 (IntKind.wrap .u64 (IntKind.wrap .u64 (IntKind.wrap .u64 (0 + pr N M 0 3) + pr N M 1 2) + pr N M 2 1) + pr N M 3 0) + IntKind.wrap .u64 (pr N M 4 4 * 5))), Value.int .u64 (IntKind.wrap .u64 (IntKind.wrap .u64 (IntKind.wrap .u64 (IntKind.wrap .u64 (IntKind.wrap .u64 (0 + pr N M 0 4) + pr N M 1 3) + pr N M 2 2) + pr N M 3 1) + pr N M 4 0))])], 10⟩) (by kernel_rfl) (by kernel_rfl) ?_
  refine AG.gk [] [(1, { val := .ex (.agg (List.toArray (ar32 5 (prts (V (arf [IntKind.wrap .u64 (IntKind.wrap .u64 (IntKind.wrap .u64 (IntKind.wrap .u64 (IntKind.wrap .u64 (0 + pr N M 0 0) + IntKind.wrap .u64 (pr N M 1 4 * 5)) + IntKind.wrap .u64 (pr N M 2 3 * 5)) + IntKind.wrap .u64 (pr N M 3 2 * 5)) + IntKind.wrap .u64 (pr N M 4 1 * 5)), IntKind.wrap .u64 (IntKind.wrap .u64 (IntKind.wrap .u64 (IntKind.wrap .u64 (IntKind.wrap .u64 (0 + pr N M 0 1) + pr N M 1 0) + IntKind.wrap .u64 (pr N M 2 4 * 5)) + IntKind.wrap .u64 (pr N M 3 3 * 5)) + IntKind.wrap .u64 (pr N M 4 2 * 5)), IntKind.wrap .u64 (IntKind.wrap .u64 (IntKind.wrap .u64 (IntKind.wrap .u64 (IntKind.wrap .u64 (0 + pr N M 0 2) + pr N M 1 1) + pr N M 2 0) + IntKind.wrap .u64 (pr N M 3 4 * 5)) + IntKind.wrap .u64 (pr N M 4 3 * 5)), IntKind.wrap .u64 (IntKind.wrap .u64 (IntKind.wrap .u64 (IntKind.wrap .u64 (IntKind.wrap .u64 (0 + pr N M 0 3) + pr N M 1 2) + pr N M 2 1) + pr N M 3 0) + IntKind.wrap .u64 (pr N M 4 4 * 5)), IntKind.wrap .u64 (IntKind.wrap .u64 (IntKind.wrap .u64 (IntKind.wrap .u64 (IntKind.wrap .u64 (0 + pr N M 0 4) + pr N M 1 3) + pr N M 2 2) + pr N M 3 1) + pr N M 4 0)]) % PP))))) })] [4] [8] 9 (st' := ⟨mkT 47 [(4, .p 8 0)], [(8, .own [Value.int .u32 (prts (V (arf [IntKind.wrap .u64 (IntKind.wrap .u64 (IntKind.wrap .u64 (IntKind.wrap .u64 (IntKind.wrap .u64 (0 + pr N M 0 0) + IntKind.wrap .u64 (pr N M 1 4 * 5)) + IntKind.wrap .u64 (pr N M 2 3 * 5)) + IntKind.wrap .u64 (pr N M 3 2 * 5)) + IntKind.wrap .u64 (pr N M 4 1 * 5)), IntKind.wrap .u64 (IntKind.wrap .u64 (IntKind.wrap .u64 (IntKind.wrap .u64 (IntKind.wrap .u64 (0 + pr N M 0 1) + pr N M 1 0) + IntKind.wrap .u64 (pr N M 2 4 * 5)) + IntKind.wrap .u64 (pr N M 3 3 * 5)) + IntKind.wrap .u64 (pr N M 4 2 * 5)), IntKind.wrap .u64 (IntKind.wrap .u64 (IntKind.wrap .u64 (IntKind.wrap .u64 (IntKind.wrap .u64 (0 + pr N M 0 2) + pr N M 1 1) + pr N M 2 0) + IntKind.wrap .u64 (pr N M 3 4 * 5)) + IntKind.wrap .u64 (pr N M 4 3 * 5)), IntKind.wrap .u64 (IntKind.wrap .u64 (IntKind.wrap .u64 (IntKind.wrap .u64 (IntKind.wrap .u64 (0 + pr N M 0 3) + pr N M 1 2) + pr N M 2 1) + pr N M 3 0) + IntKind.wrap .u64 (pr N M 4 4 * 5)), IntKind.wrap .u64 (IntKind.wrap .u64 (IntKind.wrap .u64 (IntKind.wrap .u64 (IntKind.wrap .u64 (0 + pr N M 0 4) + pr N M 1 3) + pr N M 2 2) + pr N M 3 1) + pr N M 4 0)]) % 1361129467683753853853498429727072845819) 0), Value.int .u32 (prts (V (arf [IntKind.wrap .u64 (IntKind.wrap .u64 (IntKind.wrap .u64 (IntKind.wrap .u64 (IntKind.wrap .u64 (0 + pr N M 0 0) + IntKind.wrap .u64 (pr N M 1 4 * 5)) + IntKind.wrap .u64 (pr N M 2 3 * 5)) + IntKind.wrap .u64 (pr N M 3 2 * 5)) + IntKind.wrap .u64 (pr N M 4 1 * 5)), IntKind.wrap .u64 (IntKind.wrap .u64 (IntKind.wrap .u64 (IntKind.wrap .u64 (IntKind.wrap .u64 (0 + pr N M 0 1) + pr N M 1 0) + IntKind.wrap .u64 (pr N M 2 4 * 5)) + IntKind.wrap .u64 (pr N M 3 3 * 5)) + IntKind.wrap .u64 (pr N M 4 2 * 5)), IntKind.wrap .u64 (IntKind.wrap .u64 (IntKind.wrap .u64 (IntKind.wrap .u64 (IntKind.wrap .u64 (0 + pr N M 0 2) + pr N M 1 1) + pr N M 2 0) + IntKind.wrap .u64 (pr N M 3 4 * 5)) + IntKind.wrap .u64 (pr N M 4 3 * 5)), IntKind.wrap .u64 (IntKind.wrap .u64 (IntKind.wrap .u64 (IntKind.wrap .u64 (IntKind.wrap .u64 (0 + pr N M 0 3) + pr N M 1 2) + pr N M 2 1) + pr N M 3 0) + IntKind.wrap .u64 (pr N M 4 4 * 5)), IntKind.wrap .u64 (IntKind.wrap .u64 (IntKind.wrap .u64 (IntKind.wrap .u64 (IntKind.wrap .u64 (0 + pr N M 0 4) + pr N M 1 3) + pr N M 2 2) + pr N M 3 1) + pr N M 4 0)]) % 1361129467683753853853498429727072845819) 1), Value.int .u32 (prts (V (arf [IntKind.wrap .u64 (IntKind.wrap .u64 (IntKind.wrap .u64 (IntKind.wrap .u64 (IntKind.wrap .u64 (0 + pr N M 0 0) + IntKind.wrap .u64 (pr N M 1 4 * 5)) + IntKind.wrap .u64 (pr N M 2 3 * 5)) + IntKind.wrap .u64 (pr N M 3 2 * 5)) + IntKind.wrap .u64 (pr N M 4 1 * 5)), IntKind.wrap .u64 (IntKind.wrap .u64 (IntKind.wrap .u64 (IntKind.wrap .u64 (IntKind.wrap .u64 (0 + pr N M 0 1) + pr N M 1 0) + IntKind.wrap .u64 (pr N M 2 4 * 5)) + IntKind.wrap .u64 (pr N M 3 3 * 5)) + IntKind.wrap .u64 (pr N M 4 2 * 5)), IntKind.wrap .u64 (IntKind.wrap .u64 (IntKind.wrap .u64 (IntKind.wrap .u64 (IntKind.wrap .u64 (0 + pr N M 0 2) + pr N M 1 1) + pr N M 2 0) + IntKind.wrap .u64 (pr N M 3 4 * 5)) + IntKind.wrap .u64 (pr N M 4 3 * 5)), IntKind.wrap .u64 (IntKind.wrap .u64 (IntKind.wrap .u64 (IntKind.wrap .u64 (IntKind.wrap .u64 (0 + pr N M 0 3) + pr N M 1 2) + pr N M 2 1) + pr N M 3 0) + IntKind.wrap .u64 (pr N M 4 4 * 5)), IntKind.wrap .u64 (IntKind.wrap .u64 (IntKind.wrap .u64 (IntKind.wrap .u64 (IntKind.wrap .u64 (0 + pr N M 0 4) + pr N M 1 3) + pr N M 2 2) + pr N M 3 1) + pr N M 4 0)]) % 1361129467683753853853498429727072845819) 2), Value.int .u32 (prts (V (arf [IntKind.wrap .u64 (IntKind.wrap .u64 (IntKind.wrap .u64 (IntKind.wrap .u64 (IntKind.wrap .u64 (0 + pr N M 0 0) + IntKind.wrap .u64 (pr N M 1 4 * 5)) + IntKind.wrap .u64 (pr N M 2 3 * 5)) + IntKind.wrap .u64 (pr N M 3 2 * 5)) + IntKind.wrap .u64 (pr N M 4 1 * 5)), IntKind.wrap .u64 (IntKind.wrap .u64 (IntKind.wrap .u64 (IntKind.wrap .u64 (IntKind.wrap .u64 (0 + pr N M 0 1) + pr N M 1 0) + IntKind.wrap .u64 (pr N M 2 4 * 5)) + IntKind.wrap .u64 (pr N M 3 3 * 5)) + IntKind.wrap .u64 (pr N M 4 2 * 5)), IntKind.wrap .u64 (IntKind.wrap .u64 (IntKind.wrap .u64 (IntKind.wrap .u64 (IntKind.wrap .u64 (0 + pr N M 0 2) + pr N M 1 1) + pr N M 2 0) + IntKind.wrap .u64 (pr N M 3 4 * 5)) + IntKind.wrap .u64 (pr N M 4 3 * 5)), IntKind.wrap .u64 (IntKind.wrap .u64 (IntKind.wrap .u64 (IntKind.wrap .u64 (IntKind.wrap .u64 (0 + pr N M 0 3) + pr N M 1 2) + pr N M 2 1) + pr N M 3 0) + IntKind.wrap .u64 (pr N M 4 4 * 5)), IntKind.wrap .u64 (IntKind.wrap .u64 (IntKind.wrap .u64 (IntKind.wrap .u64 (IntKind.wrap .u64 (0 + pr N M 0 4) + pr N M 1 3) + pr N M 2 2) + pr N M 3 1) + pr N M 4 0)]) % 1361129467683753853853498429727072845819) 3), Value.int .u32 (prts (V (arf [IntKind.wrap .u64 (IntKind.wrap .u64 (IntKind.wrap .u64 (IntKind.wrap .u64 (IntKind.wrap .u64 (0 + pr N M 0 0) + IntKind.wrap .u64 (pr N M 1 4 * 5)) + IntKind.wrap .u64 (pr N M 2 3 * 5)) + IntKind.wrap .u64 (pr N M 3 2 * 5)) + IntKind.wrap .u64 (pr N M 4 1 * 5)), IntKind.wrap .u64 (IntKind.wrap .u64 (IntKind.wrap .u64 (IntKind.wrap .u64 (IntKind.wrap .u64 (0 + pr N M 0 1) + pr N M 1 0) + IntKind.wrap .u64 (pr N M 2 4 * 5)) + IntKind.wrap .u64 (pr N M 3 3 * 5)) + IntKind.wrap .u64 (pr N M 4 2 * 5)), IntKind.wrap .u64 (IntKind.wrap .u64 (IntKind.wrap .u64 (IntKind.wrap .u64 (IntKind.wrap .u64 (0 + pr N M 0 2) + pr N M 1 1) + pr N M 2 0) + IntKind.wrap .u64 (pr N M 3 4 * 5)) + IntKind.wrap .u64 (pr N M 4 3 * 5)), IntKind.wrap .u64 (IntKind.wrap .u64 (IntKind.wrap .u64 (IntKind.wrap .u64 (IntKind.wrap .u64 (0 + pr N M 0 3) + pr N M 1 2) + pr N M 2 1) + pr N M 3 0) + IntKind.wrap .u64 (pr N M 4 4 * 5)), IntKind.wrap .u64 (IntKind.wrap .u64 (IntKind.wrap .u64 (IntKind.wrap .u64 (IntKind.wrap .u64 (0 + pr N M 0 4) + pr N M 1 3) + pr N M 2 2) + pr N M 3 1) + pr N M 4 0)]) % 1361129467683753853853498429727072845819) 4)])], 9⟩) (obs := [Ob.call (fun g => List.lookup g []) 20 [.ex (.agg { toList := [Value.int .u64 (IntKind.wrap .u64 (IntKind.wrap .u64 (IntKind.wrap .u64 (IntKind.wrap .u64 (IntKind.wrap .u64 (0 + pr N M 0 0) + IntKind.wrap .u64 (pr N M 1 4 * 5)) + IntKind.wrap .u64 (pr N M 2 3 * 5)) + IntKind.wrap .u64 (pr N M 3 2 * 5)) + IntKind.wrap .u64 (pr N M 4 1 * 5))), Value.int .u64 (IntKind.wrap .u64 (IntKind.wrap .u64 (IntKind.wrap .u64 (IntKind.wrap .u64 (IntKind.wrap .u64 (0 + pr N M 0 1) + pr N M 1 0) + IntKind.wrap .u64 (pr N M 2 4 * 5)) + IntKind.wrap .u64 (pr N M 3 3 * 5)) + IntKind.wrap .u64 (pr N M 4 2 * 5))), Value.int .u64 (IntKind.wrap .u64 (IntKind.wrap .u64 (IntKind.wrap .u64 (IntKind.wrap .u64 (IntKind.wrap .u64 (0 + pr N M 0 2) + pr N M 1 1) + pr N M 2 0) + IntKind.wrap .u64 (pr N M 3 4 * 5)) + IntKind.wrap .u64 (pr N M 4 3 * 5))), Value.int .u64 (IntKind.wrap .u64 (IntKind.wrap .u64 (IntKind.wrap .u64 (IntKind.wrap .u64 (IntKind.wrap .u64 (0 + pr N M 0 3) + pr N M 1 2) + pr N M 2 1) + pr N M 3 0) + IntKind.wrap .u64 (pr N M 4 4 * 5))), Value.int .u64 (IntKind.wrap .u64 (IntKind.wrap .u64 (IntKind.wrap .u64 (IntKind.wrap .u64 (IntKind.wrap .u64 (0 + pr N M 0 4) + pr N M 1 3) + pr N M 2 2) + pr N M 3 1) + pr N M 4 0))] })] [] { val := .ex (.agg (List.toArray (ar32 5 (prts (V (arf [IntKind.wrap .u64 (IntKind.wrap .u64 (IntKind.wrap .u64 (IntKind.wrap .u64 (IntKind.wrap .u64 (0 + pr N M 0 0) + IntKind.wrap .u64 (pr N M 1 4 * 5)) + IntKind.wrap .u64 (pr N M 2 3 * 5)) + IntKind.wrap .u64 (pr N M 3 2 * 5)) + IntKind.wrap .u64 (pr N M 4 1 * 5)), IntKind.wrap .u64 (IntKind.wrap .u64 (IntKind.wrap .u64 (IntKind.wrap .u64 (IntKind.wrap .u64 (0 + pr N M 0 1) + pr N M 1 0) + IntKind.wrap .u64 (pr N M 2 4 * 5)) + IntKind.wrap .u64 (pr N M 3 3 * 5)) + IntKind.wrap .u64 (pr N M 4 2 * 5)), IntKind.wrap .u64 (IntKind.wrap .u64 (IntKind.wrap .u64 (IntKind.wrap .u64 (IntKind.wrap .u64 (0 + pr N M 0 2) + pr N M 1 1) + pr N M 2 0) + IntKind.wrap .u64 (pr N M 3 4 * 5)) + IntKind.wrap .u64 (pr N M 4 3 * 5)), IntKind.wrap .u64 (IntKind.wrap .u64 (IntKind.wrap .u64 (IntKind.wrap .u64 (IntKind.wrap .u64 (0 + pr N M 0 3) + pr N M 1 2) + pr N M 2 1) + pr N M 3 0) + IntKind.wrap .u64 (pr N M 4 4 * 5)), IntKind.wrap .u64 (IntKind.wrap .u64 (IntKind.wrap .u64 (IntKind.wrap .u64 (IntKind.wrap .u64 (0 + pr N M 0 4) + pr N M 1 3) + pr N M 2 2) + pr N M 3 1) + pr N M 4 0)]) % PP))))) }]) (by kernel_rfl) (by kernel_rfl) ⟨((Go.Proofs.Ytenjcieaoedfaaa.Ab.formed_ok (arf [IntKind.wrap .u64 (IntKind.wrap .u64 (IntKind.wrap .u64 (IntKind.wrap .u64 (IntKind.wrap .u64 (0 + pr N M 0 0) + IntKind.wrap .u64 (pr N M 1 4 * 5)) + IntKind.wrap .u64 (pr N M 2 3 * 5)) + IntKind.wrap .u64 (pr N M 3 2 * 5)) + IntKind.wrap .u64 (pr N M 4 1 * 5)), IntKind.wrap .u64 (IntKind.wrap .u64 (IntKind.wrap .u64 (IntKind.wrap .u64 (IntKind.wrap .u64 (0 + pr N M 0 1) + pr N M 1 0) + IntKind.wrap .u64 (pr N M 2 4 * 5)) + IntKind.wrap .u64 (pr N M 3 3 * 5)) + IntKind.wrap .u64 (pr N M 4 2 * 5)), IntKind.wrap .u64 (IntKind.wrap .u64 (IntKind.wrap .u64 (IntKind.wrap .u64 (IntKind.wrap .u64 (0 + pr N M 0 2) + pr N M 1 1) + pr N M 2 0) + IntKind.wrap .u64 (pr N M 3 4 * 5)) + IntKind.wrap .u64 (pr N M 4 3 * 5)), IntKind.wrap .u64 (IntKind.wrap .u64 (IntKind.wrap .u64 (IntKind.wrap .u64 (IntKind.wrap .u64 (0 + pr N M 0 3) + pr N M 1 2) + pr N M 2 1) + pr N M 3 0) + IntKind.wrap .u64 (pr N M 4 4 * 5)), IntKind.wrap .u64 (IntKind.wrap .u64 (IntKind.wrap .u64 (IntKind.wrap .u64 (IntKind.wrap .u64 (0 + pr N M 0 4) + pr N M 1 3) + pr N M 2 2) + pr N M 3 1) + pr N M 4 0)]) (by omega)).gl), trivial⟩ ?_
  refine AG.fin ([.ex (.agg { toList := [Value.int .u32 (prts (V (arf [IntKind.wrap .u64 (IntKind.wrap .u64 (IntKind.wrap .u64 (IntKind.wrap .u64 (IntKind.wrap .u64 (0 + pr N M 0 0) + IntKind.wrap .u64 (pr N M 1 4 * 5)) + IntKind.wrap .u64 (pr N M 2 3 * 5)) + IntKind.wrap .u64 (pr N M 3 2 * 5)) + IntKind.wrap .u64 (pr N M 4 1 * 5)), IntKind.wrap .u64 (IntKind.wrap .u64 (IntKind.wrap .u64 (IntKind.wrap .u64 (IntKind.wrap .u64 (0 + pr N M 0 1) + pr N M 1 0) + IntKind.wrap .u64 (pr N M 2 4 * 5)) + IntKind.wrap .u64 (pr N M 3 3 * 5)) + IntKind.wrap .u64 (pr N M 4 2 * 5)), IntKind.wrap .u64 (IntKind.wrap .u64 (IntKind.wrap .u64 (IntKind.wrap .u64 (IntKind.wrap .u64 (0 + pr N M 0 2) + pr N M 1 1) + pr N M 2 0) + IntKind.wrap .u64 (pr N M 3 4 * 5)) + IntKind.wrap .u64 (pr N M 4 3 * 5)), IntKind.wrap .u64 (IntKind.wrap .u64 (IntKind.wrap .u64 (IntKind.wrap .u64 (IntKind.wrap .u64 (0 + pr N M 0 3) + pr N M 1 2) + pr N M 2 1) + pr N M 3 0) + IntKind.wrap .u64 (pr N M 4 4 * 5)), IntKind.wrap .u64 (IntKind.wrap .u64 (IntKind.wrap .u64 (IntKind.wrap .u64 (IntKind.wrap .u64 (0 + pr N M 0 4) + pr N M 1 3) + pr N M 2 2) + pr N M 3 1) + pr N M 4 0)]) % 1361129467683753853853498429727072845819) 0), Value.int .u32 (prts (V (arf [IntKind.wrap .u64 (IntKind.wrap .u64 (IntKind.wrap .u64 (IntKind.wrap .u64 (IntKind.wrap .u64 (0 + pr N M 0 0) + IntKind.wrap .u64 (pr N M 1 4 * 5)) + IntKind.wrap .u64 (pr N M 2 3 * 5)) + IntKind.wrap .u64 (pr N M 3 2 * 5)) + IntKind.wrap .u64 (pr N M 4 1 * 5)), IntKind.wrap .u64 (IntKind.wrap .u64 (IntKind.wrap .u64 (IntKind.wrap .u64 (IntKind.wrap .u64 (0 + pr N M 0 1) + pr N M 1 0) + IntKind.wrap .u64 (pr N M 2 4 * 5)) + IntKind.wrap .u64 (pr N M 3 3 * 5)) + IntKind.wrap .u64 (pr N M 4 2 * 5)), IntKind.wrap .u64 (IntKind.wrap .u64 (IntKind.wrap .u64 (IntKind.wrap .u64 (IntKind.wrap .u64 (0 + pr N M 0 2) + pr N M 1 1) + pr N M 2 0) + IntKind.wrap .u64 (pr N M 3 4 * 5)) + IntKind.wrap .u64 (pr N M 4 3 * 5)), IntKind.wrap .u64 (IntKind.wrap .u64 (IntKind.wrap .u64 (IntKind.wrap .u64 (IntKind.wrap .u64 (0 + pr N M 0 3) + pr N M 1 2) + pr N M 2 1) + pr N M 3 0) + IntKind.wrap .u64 (pr N M 4 4 * 5)), IntKind.wrap .u64 (IntKind.wrap .u64 (IntKind.wrap .u64 (IntKind.wrap .u64 (IntKind.wrap .u64 (0 + pr N M 0 4) + pr N M 1 3) + pr N M 2 2) + pr N M 3 1) + pr N M 4 0)]) % 1361129467683753853853498429727072845819) 1), Value.int .u32 (prts (V (arf [IntKind.wrap .u64 (IntKind.wrap .u64 (IntKind.wrap .u64 (IntKind.wrap .u64 (IntKind.wrap .u64 (0 + pr N M 0 0) + IntKind.wrap .u64 (pr N M 1 4 * 5)) + IntKind.wrap .u64 (pr N M 2 3 * 5)) + IntKind.wrap .u64 (pr N M 3 2 * 5)) + IntKind.wrap .u64 (pr N M 4 1 * 5)), IntKind.wrap .u64 (IntKind.wrap .u64 (IntKind.wrap .u64 (IntKind.wrap .u64 (IntKind.wrap .u64 (0 + pr N M 0 1) + pr N M 1 0) + IntKind.wrap .u64 (pr N M 2 4 * 5)) + IntKind.wrap .u64 (pr N M 3 3 * 5)) + IntKind.wrap .u64 (pr N M 4 2 * 5)), IntKind.wrap .u64 (IntKind.wrap .u64 (IntKind.wrap .u64 (IntKind.wrap .u64 (IntKind.wrap .u64 (0 + pr N M 0 2) + pr N M 1 1) + pr N M 2 0) + IntKind.wrap .u64 (pr N M 3 4 * 5)) + IntKind.wrap .u64 (pr N M 4 3 * 5)), IntKind.wrap .u64 (IntKind.wrap .u64 (IntKind.wrap .u64 (IntKind.wrap .u64 (IntKind.wrap .u64 (0 + pr N M 0 3) + pr N M 1 2) + pr N M 2 1) + pr N M 3 0) + IntKind.wrap .u64 (pr N M 4 4 * 5)), IntKind.wrap .u64 (IntKind.wrap .u64 (IntKind.wrap .u64 (IntKind.wrap .u64 (IntKind.wrap .u64 (0 + pr N M 0 4) + pr N M 1 3) + pr N M 2 2) + pr N M 3 1) + pr N M 4 0)]) % 1361129467683753853853498429727072845819) 2), Value.int .u32 (prts (V (arf [IntKind.wrap .u64 (IntKind.wrap .u64 (IntKind.wrap .u64 (IntKind.wrap .u64 (IntKind.wrap .u64 (0 + pr N M 0 0) + IntKind.wrap .u64 (pr N M 1 4 * 5)) + IntKind.wrap .u64 (pr N M 2 3 * 5)) + IntKind.wrap .u64 (pr N M 3 2 * 5)) + IntKind.wrap .u64 (pr N M 4 1 * 5)), IntKind.wrap .u64 (IntKind.wrap .u64 (IntKind.wrap .u64 (IntKind.wrap .u64 (IntKind.wrap .u64 (0 + pr N M 0 1) + pr N M 1 0) + IntKind.wrap .u64 (pr N M 2 4 * 5)) + IntKind.wrap .u64 (pr N M 3 3 * 5)) + IntKind.wrap .u64 (pr N M 4 2 * 5)), IntKind.wrap .u64 (IntKind.wrap .u64 (IntKind.wrap .u64 (IntKind.wrap .u64 (IntKind.wrap .u64 (0 + pr N M 0 2) + pr N M 1 1) + pr N M 2 0) + IntKind.wrap .u64 (pr N M 3 4 * 5)) + IntKind.wrap .u64 (pr N M 4 3 * 5)), IntKind.wrap .u64 (IntKind.wrap .u64 (IntKind.wrap .u64 (IntKind.wrap .u64 (IntKind.wrap .u64 (0 + pr N M 0 3) + pr N M 1 2) + pr N M 2 1) + pr N M 3 0) + IntKind.wrap .u64 (pr N M 4 4 * 5)), IntKind.wrap .u64 (IntKind.wrap .u64 (IntKind.wrap .u64 (IntKind.wrap .u64 (IntKind.wrap .u64 (0 + pr N M 0 4) + pr N M 1 3) + pr N M 2 2) + pr N M 3 1) + pr N M 4 0)]) % 1361129467683753853853498429727072845819) 3), Value.int .u32 (prts (V (arf [IntKind.wrap .u64 (IntKind.wrap .u64 (IntKind.wrap .u64 (IntKind.wrap .u64 (IntKind.wrap .u64 (0 + pr N M 0 0) + IntKind.wrap .u64 (pr N M 1 4 * 5)) + IntKind.wrap .u64 (pr N M 2 3 * 5)) + IntKind.wrap .u64 (pr N M 3 2 * 5)) + IntKind.wrap .u64 (pr N M 4 1 * 5)), IntKind.wrap .u64 (IntKind.wrap .u64 (IntKind.wrap .u64 (IntKind.wrap .u64 (IntKind.wrap .u64 (0 + pr N M 0 1) + pr N M 1 0) + IntKind.wrap .u64 (pr N M 2 4 * 5)) + IntKind.wrap .u64 (pr N M 3 3 * 5)) + IntKind.wrap .u64 (pr N M 4 2 * 5)), IntKind.wrap .u64 (IntKind.wrap .u64 (IntKind.wrap .u64 (IntKind.wrap .u64 (IntKind.wrap .u64 (0 + pr N M 0 2) + pr N M 1 1) + pr N M 2 0) + IntKind.wrap .u64 (pr N M 3 4 * 5)) + IntKind.wrap .u64 (pr N M 4 3 * 5)), IntKind.wrap .u64 (IntKind.wrap .u64 (IntKind.wrap .u64 (IntKind.wrap .u64 (IntKind.wrap .u64 (0 + pr N M 0 3) + pr N M 1 2) + pr N M 2 1) + pr N M 3 0) + IntKind.wrap .u64 (pr N M 4 4 * 5)), IntKind.wrap .u64 (IntKind.wrap .u64 (IntKind.wrap .u64 (IntKind.wrap .u64 (IntKind.wrap .u64 (0 + pr N M 0 4) + pr N M 1 3) + pr N M 2 2) + pr N M 3 1) + pr N M 4 0)]) % 1361129467683753853853498429727072845819) 4)] })]) Go.Proofs.Try.f23 fn23 (.inr ⟨_, rfl⟩) (obs := [Ob.le 5 5]) (by kernel_rfl) ⟨(Ob.holds_of_dec (by kernel_rfl)), trivial⟩ (by kernel_rfl) trivial (by kernel_rfl)
end Go.Proofs.Ytenjcieaoedfaaa.Ab
