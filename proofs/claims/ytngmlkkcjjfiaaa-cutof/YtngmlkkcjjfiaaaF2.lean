/- Own: cuts of layer 14, their bytes and half bytes (no statement is proved here). -/
import Derived.Test.YtngmlkkcjjfiaaaF1
import Derived.KernelRfl
namespace Go.Proofs.Ytngmlkkcjjfiaaa.Ab
open Go.Proofs
set_option linter.unusedSimpArgs false
set_option linter.unusedVariables false
set_option maxRecDepth 4000
theorem fn23 : Try.prog.funcs[23]? = some Try.f23 := by kernel_rfl
theorem fn24 : Try.prog.funcs[24]? = some Try.f24 := by kernel_rfl
theorem fn14 : Try.prog.funcs[14]? = some Try.f14 := by kernel_rfl
theorem fn15 : Try.prog.funcs[15]? = some Try.f15 := by kernel_rfl
theorem ascut_ok (a n m : Nat) (h : a + n ≤ m) (hm : m < 2 ^ 40) : CallOK Try.prog (fun _ => none) 23 [.ex (.complex .f64 (fb a) (fb n)), .ex (.int .i64 (m : Int))] [] { val := .tup [.ex (.int .i64 (a : Int)), .ex (.int .i64 (n : Int)), .ex (.bool true)] } := by
  have c1 := num_ok a m (by omega) hm
  have c2 := num_ok n m (by omega) hm
  have e1 : IntKind.i64.wrap ((m : Int) - (a : Int)) = ((m - a : Nat) : Int) := by rw [wrap64_id _ (by omega) (by omega)]; omega
  have e2 : decide ((n : Int) > ((m - a : Nat) : Int)) = false := by simp; omega
  generalize fb a = x at *
  generalize fb n = y at *
  refine CallOK.from0 hmix Try.f23 0 fn23 (by kernel_rfl) (by kernel_rfl) (fun w ρ h1 h2 => ?_)
  refine AG.rk 5 [0, 3, 7] [0] 1 (todo' := [.code (sub (codeOf Try.f23) [1, 1, 0]), .code (sub (codeOf Try.f23) [1, 1, 1])]) (st' := ⟨mkT 40 [(0, .ex (.complex FloatKind.f64 x y)), (3, .p 0 0), (7, .f 26 [0])], [(0, .own [Value.int .i64 (↑m : Int)])], 1⟩) (by kernel_rfl) (by kernel_rfl) ?_
  refine AG.gk [] [(3, useR [(0, 0, 0)] 13 ({ val := .tup [.ex (.int .i64 (↑a : Int)), .ex (.bool true)], upd := [(0, .own [Value.int .i64 (↑m : Int)])], wks := [0] }))] [0, 3, 4, 7, 8] [0] 1 (st' := ⟨mkT 40 [(0, .ex (.complex FloatKind.f64 x y)), (3, .p 0 0), (4, .ex (.int .i64 (↑a : Int))), (7, .f 26 [0]), (8, .ex (.bool true))], [(0, .own [Value.int .i64 (↑m : Int)])], 1⟩) (obs := [Ob.call (fun g => List.lookup g []) 26 [.ex (.float FloatKind.f64 x), .p 0 0] [(0, .own [Value.int .i64 (↑m : Int)])] (useR [(0, 0, 0)] 13 { val := .tup [.ex (.int .i64 (↑a : Int)), .ex (.bool true)], upd := [(0, .own [Value.int .i64 (↑m : Int)])], wks := [0] })]) (by kernel_rfl) (by kernel_rfl) ⟨(CallOK.at0 [(0, 0, 0)] 13 (c1 ) (.cons (.ex _) (.cons (.p rfl) .nil)) (.cons rfl rfl ⟨rfl, rfl⟩ .nil) (by kernel_rfl)), trivial⟩ ?_
  refine AG.rk 1 [0, 3, 4, 7, 8] [0] 1 (todo' := [.code (sub (codeOf Try.f23) [1, 1, 1, 0]), .code (sub (codeOf Try.f23) [1, 1, 1, 1])]) (st' := ⟨mkT 40 [(0, .ex (.complex FloatKind.f64 x y)), (3, .p 0 0), (4, .ex (.int .i64 (↑a : Int))), (7, .f 26 [0]), (8, .ex (.bool true))], [(0, .own [Value.int .i64 (↑m : Int)])], 1⟩) (by kernel_rfl) (by kernel_rfl) ?_
  refine AG.gk [] [(3, useR [(0, 0, 0)] 13 ({ val := .tup [.ex (.int .i64 (↑n : Int)), .ex (.bool true)], upd := [(0, .own [Value.int .i64 (↑m : Int)])], wks := [0] }))] [3, 4, 5, 8, 9] [0] 1 (st' := ⟨mkT 40 [(3, .p 0 0), (4, .ex (.int .i64 (↑a : Int))), (5, .ex (.int .i64 (↑n : Int))), (8, .ex (.bool true)), (9, .ex (.bool true))], [(0, .own [Value.int .i64 (↑m : Int)])], 1⟩) (obs := [Ob.call (fun g => List.lookup g []) 26 [.ex (.float FloatKind.f64 y), .p 0 0] [(0, .own [Value.int .i64 (↑m : Int)])] (useR [(0, 0, 0)] 13 { val := .tup [.ex (.int .i64 (↑n : Int)), .ex (.bool true)], upd := [(0, .own [Value.int .i64 (↑m : Int)])], wks := [0] })]) (by kernel_rfl) (by kernel_rfl) ⟨(CallOK.at0 [(0, 0, 0)] 13 (c2 ) (.cons (.ex _) (.cons (.p rfl) .nil)) (.cons rfl rfl ⟨rfl, rfl⟩ .nil) (by kernel_rfl)), trivial⟩ ?_
  refine AG.rk 2 [3, 4, 5, 8, 9] [0] 1 (todo' := [.code (sub (codeOf Try.f23) [1, 1, 1, 1, 0, 0]), .code (sub (codeOf Try.f23) [1, 1, 1, 1, 0, 1]), .code (sub (codeOf Try.f23) [1, 1, 1, 1, 1])]) (st' := ⟨mkT 40 [(3, .p 0 0), (4, .ex (.int .i64 (↑a : Int))), (5, .ex (.int .i64 (↑n : Int))), (8, .ex (.bool true)), (9, .ex (.bool true))], [(0, .own [Value.int .i64 (↑m : Int)])], 1⟩) (by kernel_rfl) (by kernel_rfl) ?_
  refine AG.gk [] [(10, { val := .ex (.int .i64 (↑(m - a) : Int)) }), (11, { val := .ex (.bool false) })] [4, 5, 37] [] 0 (st' := ⟨mkT 40 [(4, .ex (.int .i64 (↑a : Int))), (5, .ex (.int .i64 (↑n : Int))), (37, .ex (.bool false))], [], 0⟩) (obs := [Ob.eq (.ex (.int .i64 (IntKind.wrap .i64 ((↑m : Int) - (↑a : Int))))) (.ex (.int .i64 (↑(m - a) : Int))), Ob.eq (.ex (.bool (decide ((↑n : Int) > (↑(m - a) : Int))))) (.ex (.bool false))]) (by kernel_rfl) (by kernel_rfl) ⟨(by simp only [Ob.holds, e1]), (by simp only [Ob.holds, e2]), trivial⟩ ?_
  refine AG.rk 4 [4, 5, 6] [] 0 (todo' := [.code (sub (codeOf Try.f23) [1, 1, 1, 1, 0, 1, 0, 1])]) (st' := ⟨mkT 40 [(4, .ex (.int .i64 (↑a : Int))), (5, .ex (.int .i64 (↑n : Int))), (6, .ex (.bool true))], [], 0⟩) (by kernel_rfl) (by kernel_rfl) ?_
  refine AG.fin ([.ex (.int .i64 (↑a : Int)), .ex (.int .i64 (↑n : Int)), .ex (.bool true)]) Go.Proofs.Try.f23 fn23 (.inr ⟨_, rfl⟩) (obs := []) (by kernel_rfl) trivial (by kernel_rfl) trivial (by kernel_rfl)
theorem shift_ok (j : Nat) (hj : j < 2 ^ 40) : CallOK Try.prog (fun _ => none) 24 [.ex (.int .i64 (j : Int))] [] { val := .ex (.int .i64 ((4 - j % 2 * 4 : Nat) : Int)) } := by
  have e1 : (j : Int).tmod 2 = ((j % 2 : Nat) : Int) := by rw [Int.tmod_eq_emod_of_nonneg (by omega)]; omega
  have e2 : IntKind.i64.wrap (((j % 2 : Nat) : Int) * 4) = ((j % 2 * 4 : Nat) : Int) := by rw [wrap64_id _ (by omega) (by omega)]; omega
  have e3 : IntKind.i64.wrap (4 - ((j % 2 * 4 : Nat) : Int)) = ((4 - j % 2 * 4 : Nat) : Int) := by rw [wrap64_id _ (by omega) (by omega)]; omega
  refine CallOK.from0 hmix Try.f24 0 fn24 (by kernel_rfl) (by kernel_rfl) (fun w ρ h1 h2 => ?_)
  refine AG.rk 3 [0] [] 0 (todo' := [.code (sub (codeOf Try.f24) [1, 0]), .code (sub (codeOf Try.f24) [1, 1])]) (st' := ⟨mkT 7 [(0, .ex (.int .i64 (↑j : Int)))], [], 0⟩) (by kernel_rfl) (by kernel_rfl) ?_
  refine AG.gk [] [(1, { val := .ex (.int .i64 (↑(j % 2) : Int)) }), (2, { val := .ex (.int .i64 (↑(j % 2 * 4) : Int)) }), (3, { val := .ex (.int .i64 (↑(4 - j % 2 * 4) : Int)) })] [2] [] 0 (st' := ⟨mkT 7 [(2, .ex (.int .i64 (↑(4 - j % 2 * 4) : Int)))], [], 0⟩) (obs := [Ob.eq (.ex (.int .i64 (Int.tmod (↑j : Int) 2))) (.ex (.int .i64 (↑(j % 2) : Int))), Ob.le 1 2, Ob.eq (.ex (.int .i64 (IntKind.wrap .i64 ((↑(j % 2) : Int) * 4)))) (.ex (.int .i64 (↑(j % 2 * 4) : Int))), Ob.eq (.ex (.int .i64 (IntKind.wrap .i64 (4 - (↑(j % 2 * 4) : Int))))) (.ex (.int .i64 (↑(4 - j % 2 * 4) : Int)))]) (by kernel_rfl) (by kernel_rfl) ⟨(by simp only [Ob.holds, e1]), (Ob.holds_of_dec (by kernel_rfl)), (by simp only [Ob.holds, e2]), (by simp only [Ob.holds, e3]), trivial⟩ ?_
  refine AG.fin ([.ex (.int .i64 (↑(4 - j % 2 * 4) : Int))]) Go.Proofs.Try.f24 fn24 (.inr ⟨_, rfl⟩) (obs := []) (by kernel_rfl) trivial (by kernel_rfl) trivial (by kernel_rfl)
theorem rep_ar8 (n : Nat) : List.replicate n (Value.int .u8 0) = ar8 n (fun _ => 0) := by
  apply List.ext_getElem
  · simp [ar8]
  · intro i h1 h2; simp [ar8]
/-- A half byte. -/
def hvb (bs : List Int) (j : Nat) : Int := if j % 2 = 0 then bAt bs ((j / 2 : Nat) : Int) / 16 else bAt bs ((j / 2 : Nat) : Int) % 16
theorem hv_all : ∀ m : Nat, m < 256 → IntKind.u8.wrap (BitVec.ofInt 8 (((m : Nat) : Int).fdiv (2 ^ min (((4 - 0 * 4 : Nat) : Int)).toNat 8)) &&& BitVec.ofInt 8 15).toNat = ((m : Nat) : Int) / 16 ∧ IntKind.u8.wrap (BitVec.ofInt 8 (((m : Nat) : Int).fdiv (2 ^ min (((4 - 1 * 4 : Nat) : Int)).toNat 8)) &&& BitVec.ofInt 8 15).toNat = ((m : Nat) : Int) % 16 := by decide +kernel
theorem hv_eq (bs : List Int) (h8 : All8 bs) (j : Nat) : IntKind.u8.wrap (BitVec.ofInt 8 ((bAt bs ((j / 2 : Nat) : Int)).fdiv (2 ^ min (((4 - j % 2 * 4 : Nat) : Int)).toNat 8)) &&& BitVec.ofInt 8 15).toNat = hvb bs j := by
  have h := h8.at ((j / 2 : Nat) : Int)
  unfold hvb
  obtain ⟨m, hm⟩ := Int.eq_ofNat_of_zero_le h.1
  rw [hm] at h ⊢
  have h256 : m < 256 := by have := h.2; omega
  have hp : j % 2 = 0 ∨ j % 2 = 1 := by omega
  rcases hp with hp | hp
  · rw [hp, if_pos rfl]; exact (hv_all m h256).1
  · rw [hp, if_neg (by decide)]; exact (hv_all m h256).2
theorem r8_hvb (bs : List Int) (h8 : All8 bs) (j : Nat) : 0 ≤ hvb bs j ∧ hvb bs j ≤ 15 := by
  have h := h8.at ((j / 2 : Nat) : Int)
  have h1 := h.1
  have h2 := h.2
  unfold hvb
  split <;> omega
theorem halves_ok (bs : List Int) (h8 : All8 bs) (hl : bs.length ≤ 4000) (a n : Nat) (h : a + n ≤ 2 * bs.length) : CallOK Try.prog (fun _ => none) 15 [.sv 0 0 bs.length, .ex (.complex .f64 (fb a) (fb n))] [(0, .view (bs.map (Value.int .u8)))] { val := .tup [.s 1 0 n n, .ex (.bool true)], upd := [(1, .own (ar8 n fun j => hvb bs (a + j)))], nks := [1] } := by
  have e0 : IntKind.i64.wrap (2 * (bs.length : Int)) = ((2 * bs.length : Nat) : Int) := by rw [wrap64_id _ (by omega) (by omega)]; omega
  have ca := ascut_ok a n (2 * bs.length) h (by omega)
  generalize fb a = x at *
  generalize fb n = y at *
  refine CallOK.from0 hmix Try.f15 1 fn15 (by kernel_rfl) (by kernel_rfl) (fun w ρ h1 h2 => ?_)
  refine AG.rk 3 [0, 1] [0] 1 (todo' := [.code (sub (codeOf Try.f15) [1, 0]), .code (sub (codeOf Try.f15) [1, 1])]) (st' := ⟨mkT 46 [(0, .sv 0 0 (List.length bs)), (1, .ex (.complex FloatKind.f64 x y))], [(0, .view (List.map (Value.int .u8) bs))], 1⟩) (by kernel_rfl) (by kernel_rfl) ?_
  refine AG.gk [] [(3, { val := .ex (.int .i64 (↑(2 * List.length bs) : Int)) }), (4, { val := .tup [.ex (.int .i64 (↑a : Int)), .ex (.int .i64 (↑n : Int)), .ex (.bool true)] })] [0, 6, 7, 8] [0] 1 (st' := ⟨mkT 46 [(0, .sv 0 0 (List.length bs)), (6, .ex (.int .i64 (↑a : Int))), (7, .ex (.int .i64 (↑n : Int))), (8, .ex (.bool true))], [(0, .view (List.map (Value.int .u8) bs))], 1⟩) (obs := [Ob.eq (.ex (.int .i64 (IntKind.wrap .i64 (2 * (↑(List.length bs) : Int))))) (.ex (.int .i64 (↑(2 * List.length bs) : Int))), Ob.call (fun g => List.lookup g []) 23 [.ex (.complex FloatKind.f64 x y), .ex (.int .i64 (↑(2 * List.length bs) : Int))] [] { val := .tup [.ex (.int .i64 (↑a : Int)), .ex (.int .i64 (↑n : Int)), .ex (.bool true)] }]) (by kernel_rfl) (by kernel_rfl) ⟨(by simp only [Ob.holds, e0]), ((ca ).gl), trivial⟩ ?_
  refine AG.rk 6 [0, 6, 7] [0] 1 (todo' := [.code (sub (codeOf Try.f15) [1, 1, 1, 0]), .code (sub (codeOf Try.f15) [1, 1, 1, 1])]) (st' := ⟨mkT 46 [(0, .sv 0 0 (List.length bs)), (6, .ex (.int .i64 (↑a : Int))), (7, .ex (.int .i64 (↑n : Int)))], [(0, .view (List.map (Value.int .u8) bs))], 1⟩) (by kernel_rfl) (by kernel_rfl) ?_
  refine AG.gk [] [(1, { val := .s 5 0 n n })] [0, 6, 7, 9] [0, 5] 6 (st' := ⟨mkT 46 [(0, .sv 0 0 (List.length bs)), (6, .ex (.int .i64 (↑a : Int))), (7, .ex (.int .i64 (↑n : Int))), (9, .s 5 0 n n)], [(0, .view (List.map (Value.int .u8) bs)), (5, .own (List.replicate (Int.toNat (↑n : Int)) (Value.int .u8 0)))], 6⟩) (obs := [Ob.eq (.s 5 0 (Int.toNat (↑n : Int)) (Int.toNat (↑n : Int))) (.s 5 0 n n), Ob.ix (↑n : Int) (Int.toNat (↑n : Int) + 1), Ob.ix (↑n : Int) 9223372036854775808, Ob.le (1 * Int.toNat (↑n : Int)) 281474976710656]) (by kernel_rfl) (by kernel_rfl) ⟨(by simp only [Ob.holds, Int.toNat_natCast]), (by (simp only [Ob.holds]; omega)), (by (simp only [Ob.holds]; omega)), (by (simp only [Ob.holds]; omega)), trivial⟩ ?_
  refine AG.rk 4 [0, 6, 9, 25, 26] [0, 5] 6 (todo' := [.code (sub (codeOf Try.f15) [1, 1, 1, 1, 0, 1, 0]), .inBlock 0, .code (sub (codeOf Try.f15) [1, 1, 1, 1, 1])]) (st' := ⟨mkT 46 [(0, .sv 0 0 (List.length bs)), (6, .ex (.int .i64 (↑a : Int))), (9, .s 5 0 n n), (25, .ex (.int .i64 (↑n : Int))), (26, .ex (.int .i64 0))], [(0, .view (List.map (Value.int .u8) bs)), (5, .own (List.replicate (Int.toNat (↑n : Int)) (Value.int .u8 0)))], 6⟩) (by kernel_rfl) (by kernel_rfl) ?_
  refine AG.rk 1 [0, 6, 9, 25, 26] [0, 5] 6 (todo' := [.code (sub (codeOf Try.f15) [1, 1, 1, 1, 0, 1, 0, 0]), .inLoop (sub (codeOf Try.f15) [1, 1, 1, 1, 0, 1, 0, 0]), .inBlock 0, .code (sub (codeOf Try.f15) [1, 1, 1, 1, 1])]) (st' := ⟨mkT 46 [(0, .sv 0 0 (List.length bs)), (6, .ex (.int .i64 (↑a : Int))), (9, .s 5 0 n n), (25, .ex (.int .i64 (↑n : Int))), (26, .ex (.int .i64 0))], [(0, .view (List.map (Value.int .u8) bs)), (5, .own (List.replicate (Int.toNat (↑n : Int)) (Value.int .u8 0)))], 6⟩) (by kernel_rfl) (by kernel_rfl) ?_
  rewrite [Int.toNat_natCast, rep_ar8]
  refine AG.indE (α := {x : Nat × (Nat → Int) // x.1 ≤ n ∧ ∀ j, j < n → x.2 j = if j < x.1 then hvb bs (a + j) else 0}) (fun x => n - x.1.1)
    (fun x => ⟨mkT 46 [(0, .sv 0 0 bs.length), (6, .ex (.int .i64 (a : Int))), (9, .s 5 0 n n), (25, .ex (.int .i64 (n : Int))), (26, .ex (.int .i64 (x.1.1 : Int)))], [(0, .view (List.map (Value.int .u8) bs)), (5, .own (ar8 n x.1.2))], 6⟩) ⟨(0, fun _ => 0), by simp, fun j _ => by simp⟩ (by kernel_rfl) ?_
  rintro ⟨⟨i, f⟩, hi, hf⟩ ih
  simp only at hi hf ih ⊢
  have hla : (ar8 n f).length = n := length_ar8 _ _
  refine AG.rk 3 [0, 6, 9, 25, 26, 27] [0, 5] 6 (todo' := [.code (sub (codeOf Try.f15) [1, 1, 1, 1, 0, 1, 0, 0, 1, 0]), .code (sub (codeOf Try.f15) [1, 1, 1, 1, 0, 1, 0, 0, 1, 1]), .inLoop (sub (codeOf Try.f15) [1, 1, 1, 1, 0, 1, 0, 0]), .inBlock 0, .code (sub (codeOf Try.f15) [1, 1, 1, 1, 1])]) (st' := ⟨mkT 46 [(0, .sv 0 0 (List.length bs)), (6, .ex (.int .i64 (↑a : Int))), (9, .s 5 0 n n), (25, .ex (.int .i64 (↑n : Int))), (26, .ex (.int .i64 (↑i : Int))), (27, .ex (.bool (decide ((↑i : Int) < (↑n : Int)))))], [(0, .view (List.map (Value.int .u8) bs)), (5, .own (ar8 n f))], 6⟩) (by kernel_rfl) (by kernel_rfl) ?_
  refine AG.cond (b := decide ((↑i : Int) < (↑n : Int))) (by kernel_rfl) (fun hc => ?_) (fun hc => ?_)
  · have hi' : i < n := by simp at hc; omega
    clear hc
    obtain ⟨j, hj⟩ : ∃ j, j = a + i := ⟨_, rfl⟩
    have cs := shift_ok j (by omega)
    have e1 : IntKind.i64.wrap ((a : Int) + (i : Int)) = (j : Int) := by rw [wrap64_id _ (by omega) (by omega)]; omega
    have e2 : IntKind.i64.wrap ((j : Int).tdiv 2) = ((j / 2 : Nat) : Int) := by rw [Int.tdiv_eq_ediv_of_nonneg (by omega), wrap64_id _ (by omega) (by omega)]; omega
    have ea : (List.map (Value.int .u8) bs).getD (0 + ((j / 2 : Nat) : Int).toNat * 1) undef = .int .u8 (bAt bs ((j / 2 : Nat) : Int)) := by rw [Nat.zero_add, Nat.mul_one]; exact map_get bs _ (by omega) (by omega) _ _
    have e3 : (i : Int) + 1 = ((i + 1 : Nat) : Int) := by omega
    have e5 : IntKind.i64.wrap ((i : Int) + 1) = ((i + 1 : Nat) : Int) := by rw [wrap64_id _ (by omega) (by omega)]; omega
    have hV := hv_eq bs h8 j
    refine AG.rk 6 [0, 6, 9, 10, 25, 26] [0, 5] 6 (todo' := [.code (sub (codeOf Try.f15) [1, 1, 1, 1, 0, 1, 0, 0, 1, 1, 0, 0, 1, 0]), .code (sub (codeOf Try.f15) [1, 1, 1, 1, 0, 1, 0, 0, 1, 1, 0, 0, 1, 1]), .inBlock 1, .code (sub (codeOf Try.f15) [1, 1, 1, 1, 0, 1, 0, 0, 1, 1, 1]), .inLoop (sub (codeOf Try.f15) [1, 1, 1, 1, 0, 1, 0, 0]), .inBlock 0, .code (sub (codeOf Try.f15) [1, 1, 1, 1, 1])]) (st' := ⟨mkT 46 [(0, .sv 0 0 (List.length bs)), (6, .ex (.int .i64 (↑a : Int))), (9, .s 5 0 n n), (10, .ex (.int .i64 (↑i : Int))), (25, .ex (.int .i64 (↑n : Int))), (26, .ex (.int .i64 (↑i : Int)))], [(0, .view (List.map (Value.int .u8) bs)), (5, .own (ar8 n f))], 6⟩) (by kernel_rfl) (by kernel_rfl) ?_
    refine AG.gk [] [(2, { val := .ex (.int .i64 (↑j : Int)) })] [0, 6, 9, 10, 11, 25, 26] [0, 5] 6 (st' := ⟨mkT 46 [(0, .sv 0 0 (List.length bs)), (6, .ex (.int .i64 (↑a : Int))), (9, .s 5 0 n n), (10, .ex (.int .i64 (↑i : Int))), (11, .ex (.int .i64 (↑j : Int))), (25, .ex (.int .i64 (↑n : Int))), (26, .ex (.int .i64 (↑i : Int)))], [(0, .view (List.map (Value.int .u8) bs)), (5, .own (ar8 n f))], 6⟩) (obs := [Ob.eq (.ex (.int .i64 (IntKind.wrap .i64 ((↑a : Int) + (↑i : Int))))) (.ex (.int .i64 (↑j : Int)))]) (by kernel_rfl) (by kernel_rfl) ⟨(by simp only [Ob.holds, e1]), trivial⟩ ?_
    refine AG.gk [5, 11, 12] [(4, { val := .ex (.int .i64 (↑(j / 2) : Int)) }), (6, { val := .ex (.int .u8 (bAt bs (↑(j / 2) : Int))) }), (8, { val := .ex (.int .i64 (↑(4 - j % 2 * 4) : Int)) }), (10, { val := .ex (.int .u8 (hvb bs j)) })] [0, 6, 9, 25, 26] [0, 5] 6 (st' := ⟨mkT 46 [(0, .sv 0 0 (List.length bs)), (6, .ex (.int .i64 (↑a : Int))), (9, .s 5 0 n n), (25, .ex (.int .i64 (↑n : Int))), (26, .ex (.int .i64 (↑i : Int)))], [(0, .view (List.map (Value.int .u8) bs)), (5, .own (putAt (ar8 n f) (0 + Int.toNat (↑i : Int) * 1) (Value.cells (Value.int .u8 (hvb bs j))).toList))], 6⟩) (obs := [Ob.eq (.ex (.int .i64 (IntKind.wrap .i64 (Int.tdiv (↑j : Int) 2)))) (.ex (.int .i64 (↑(j / 2) : Int))), Ob.le 1 2, Ob.ix (↑(j / 2) : Int) (List.length bs), Ob.eq (.ex (List.getD (List.map (Value.int .u8) bs) (0 + Int.toNat (↑(j / 2) : Int) * 1) undef)) (.ex (.int .u8 (bAt bs (↑(j / 2) : Int)))), Ob.le (0 + Int.toNat (↑(j / 2) : Int) * 1 + 1) (List.length (List.map (Value.int .u8) bs)), Ob.call (fun g => List.lookup g []) 24 [.ex (.int .i64 (↑j : Int))] [] { val := .ex (.int .i64 (↑(4 - j % 2 * 4) : Int)) }, Ob.eq (.ex (.int .u8 (IntKind.wrap .u8 (↑(BitVec.toNat (BitVec.ofInt 8 (Int.fdiv (bAt bs (↑(j / 2) : Int)) (2 ^ min (Int.toNat (↑(4 - j % 2 * 4) : Int)) 8)) &&& BitVec.ofInt 8 15)) : Int)))) (.ex (.int .u8 (hvb bs j))), Ob.ix (↑i : Int) n, Ob.le (0 + Int.toNat (↑i : Int) * 1 + 1) (List.length (ar8 n f)), Ob.le 1 1, Ob.le 1 1, Ob.one [Value.int .u8 (hvb bs j)]]) (by kernel_rfl) (by kernel_rfl) ⟨(by simp only [Ob.holds, e2]), (Ob.holds_of_dec (by kernel_rfl)), (by (simp only [Ob.holds]; omega)), (by simp only [Ob.holds, ea]), (by (simp [Ob.holds]; omega)), ((cs ).gl), (by simp only [Ob.holds, hV]), (by (simp only [Ob.holds]; omega)), (by (simp only [Ob.holds]; omega)), (Ob.holds_of_dec (by kernel_rfl)), (Ob.holds_of_dec (by kernel_rfl)), (by rfl), trivial⟩ ?_
    refine AG.rk 3 [0, 6, 9, 25, 26] [0, 5] 6 (todo' := [.code (sub (codeOf Try.f15) [1, 1, 1, 1, 0, 1, 0, 0]), .inLoop (sub (codeOf Try.f15) [1, 1, 1, 1, 0, 1, 0, 0]), .inBlock 0, .code (sub (codeOf Try.f15) [1, 1, 1, 1, 1])]) (st' := ⟨mkT 46 [(0, .sv 0 0 (List.length bs)), (6, .ex (.int .i64 (↑a : Int))), (9, .s 5 0 n n), (25, .ex (.int .i64 (↑n : Int))), (26, .ex (.int .i64 (IntKind.wrap .i64 ((↑i : Int) + 1))))], [(0, .view (List.map (Value.int .u8) bs)), (5, .own (putAt (ar8 n f) (0 + Int.toNat (↑i : Int) * 1) (Value.cells (Value.int .u8 (hvb bs j))).toList))], 6⟩) (by kernel_rfl) (by kernel_rfl) ?_
    rewrite [put_ar8 n f _ (by omega) (by omega), e5, Int.toNat_natCast]
    refine ih ⟨(i + 1, upd f i (hvb bs j)), hi', fun q hq => ?_⟩ (by simp only; omega)
    simp only
    unfold upd
    by_cases hqi : q = i
    · subst hqi; rw [if_pos rfl, if_pos (by omega), hj]
    · rw [if_neg hqi, hf q hq]
      by_cases h2 : q < i
      · rw [if_pos h2, if_pos (by omega)]
      · rw [if_neg h2, if_neg (by omega)]
  · have hall : ∀ j, j < n → f j = hvb bs (a + j) := fun j hj => by
      have : i = n := by simp at hc; omega
      rw [hf j hj, if_pos (by omega)]
    clear hc ih
    rw [ar8_congr hall]
    refine AG.rk 3 [4, 5] [0, 5] 6 (todo' := [.code (sub (codeOf Try.f15) [1, 1, 0, 1, 0, 1])]) (st' := ⟨mkT 46 [(4, .s 5 0 n n), (5, .ex (.bool true))], [(0, .view (List.map (Value.int .u8) bs)), (5, .own (ar8 n fun i => hvb bs (a + i)))], 6⟩) (by kernel_rfl) (by kernel_rfl) ?_
    refine AG.ren 5 1 (st' := ⟨mkT 46 [(4, .s 1 0 n n), (5, .ex (.bool true))], [(0, .view (List.map (Value.int .u8) bs)), (1, .own (ar8 n fun i => hvb bs (a + i)))], 6⟩) (by kernel_rfl) (by kernel_rfl) ?_
    refine AG.fin ([.s 1 0 n n, .ex (.bool true)]) Go.Proofs.Try.f15 fn15 (.inr ⟨_, rfl⟩) (obs := []) (by kernel_rfl) trivial (by kernel_rfl) ⟨(by kernel_rfl), trivial⟩ (by kernel_rfl)
end Go.Proofs.Ytngmlkkcjjfiaaa.Ab
