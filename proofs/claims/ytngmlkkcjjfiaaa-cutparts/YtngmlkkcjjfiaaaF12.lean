/- Own: the law CutParts followed (no statement is proved here). -/
import Derived.Test.YtngmlkkcjjfiaaaF11
import Derived.KernelRfl
namespace Go.Proofs.Ytngmlkkcjjfiaaa.Ab
open Go.Proofs
set_option linter.unusedSimpArgs false
set_option linter.unusedVariables false
set_option maxRecDepth 4000
theorem fn3 : Try.prog.funcs[3]? = some Try.f3 := by kernel_rfl
theorem cparts2_ok (alg : Nat) (n : Nat) (L : List (Nat × Nat × Nat)) (p q : Nat × Nat × Nat) (hL : L = [p, q]) (hn : ¬ ((n : Int) > 3000 ∧ (n : Int) ≤ 65536)) (hp : p.2.1 ≤ 70000 ∧ p.2.2 ≤ 70000) (hq : q.2.1 ≤ 70000 ∧ q.2.2 ≤ 70000)
    (c1 : CallOK Try.prog (fun _ => none) 11 [.ex (.int .i64 (alg : Int)), .ex (.int .i64 (n : Int))] [] { val := .tup [.o 0 0 2, .ex (.int .i64 0)], upd := [(0, .rowX 2 (pc L))], nks := [0] })
    (c2 : CallOK Try.prog (fun _ => none) 12 [.ex (.int .i64 (alg : Int)), .ex (.int .i64 (n : Int))] [] { val := .tup [.s 0 0 2 2, .ex (.int .i64 0)], upd := [(0, .own (rc L))], nks := [0] }) :
    CallOK Try.prog (fun _ => none) 3 [.ex (.int .i64 (alg : Int)), .ex (.int .i64 (n : Int))] [] { val := .ex (.bool true) } := by
  obtain ⟨k, a, s⟩ := p
  obtain ⟨k', a', s'⟩ := q
  simp only at hp hq
  have e1 := eq_fb a a (by omega) (by omega)
  have e2 := eq_fb s s (by omega) (by omega)
  have e3 := eq_fb a' a' (by omega) (by omega)
  have e4 := eq_fb s' s' (by omega) (by omega)
  rw [decide_eq_true rfl] at e1 e2 e3 e4
  have hP : pc L = [.int .i64 (k : Int), .complex .f64 (fb a) (fb s), .int .i64 (k' : Int), .complex .f64 (fb a') (fb s')] := by rw [hL]; rfl
  have hR : rc L = [.int .i64 (k : Int), .int .i64 (a : Int), .int .i64 (s : Int), .int .i64 (k' : Int), .int .i64 (a' : Int), .int .i64 (s' : Int)] := by rw [hL]; rfl
  rw [hP] at c1
  rw [hR] at c2
  have n1 : ∀ z : Nat, ((z : Int) != (z : Int)) = false := fun z => by simp
  generalize f1 : fb a = x1 at *
  generalize f2 : fb s = x2 at *
  generalize f3 : fb a' = x3 at *
  generalize f4 : fb s' = x4 at *
  clear hL hP hR
  by_cases hn1 : (n : Int) > 3000
  · have g1 : decide ((n : Int) > 3000) = true := by simp; omega
    have g2 : decide ((n : Int) ≤ 65536) = false := by simp; omega
    refine CallOK.from0 hmix Try.f3 0 fn3 (by kernel_rfl) (by kernel_rfl) (fun w ρ h1 h2 => ?_)
    refine AG.rk 4 [0, 1] [] 0 (todo' := [.code (sub (codeOf Try.f3) [1, 0, 0]), .code (sub (codeOf Try.f3) [1, 0, 1]), .code (sub (codeOf Try.f3) [1, 1])]) (st' := ⟨mkT 77 [(0, .ex (.int .i64 (↑alg : Int))), (1, .ex (.int .i64 (↑n : Int)))], [], 0⟩) (by kernel_rfl) (by kernel_rfl) ?_
    refine AG.gk [] [(1, { val := .ex (.bool true) }), (4, { val := .ex (.bool false) })] [0, 1, 15] [] 0 (st' := ⟨mkT 77 [(0, .ex (.int .i64 (↑alg : Int))), (1, .ex (.int .i64 (↑n : Int))), (15, .ex (.bool false))], [], 0⟩) (obs := [Ob.eq (.ex (.bool (decide ((↑n : Int) > 3000)))) (.ex (.bool true)), Ob.eq (.ex (.bool (decide ((↑n : Int) ≤ 65536)))) (.ex (.bool false))]) (by kernel_rfl) (by kernel_rfl) ⟨(by simp only [Ob.holds, g1]), (by simp only [Ob.holds, g2]), trivial⟩ ?_
    refine AG.rk 3 [0, 1] [] 0 (todo' := [.code (sub (codeOf Try.f3) [1, 1, 0]), .code (sub (codeOf Try.f3) [1, 1, 1])]) (st' := ⟨mkT 77 [(0, .ex (.int .i64 (↑alg : Int))), (1, .ex (.int .i64 (↑n : Int)))], [], 0⟩) (by kernel_rfl) (by kernel_rfl) ?_
    refine AG.gk [] [(2, useR [] 8 ({ val := .tup [.o 0 0 2, .ex (.int .i64 0)], upd := [(0, .rowX 2 [Value.int .i64 (↑k : Int), Value.complex FloatKind.f64 x1 x2, Value.int .i64 (↑k' : Int), Value.complex FloatKind.f64 x3 x4])], nks := [0] }))] [0, 1, 5, 6] [8] 9 (st' := ⟨mkT 77 [(0, .ex (.int .i64 (↑alg : Int))), (1, .ex (.int .i64 (↑n : Int))), (5, .o 8 0 2), (6, .ex (.int .i64 0))], [(8, .rowX 2 [Value.int .i64 (↑k : Int), Value.complex FloatKind.f64 x1 x2, Value.int .i64 (↑k' : Int), Value.complex FloatKind.f64 x3 x4])], 9⟩) (obs := [Ob.call (fun g => List.lookup g []) 11 [.ex (.int .i64 (↑alg : Int)), .ex (.int .i64 (↑n : Int))] [] (useR [] 8 { val := .tup [.o 0 0 2, .ex (.int .i64 0)], upd := [(0, .rowX 2 [Value.int .i64 (↑k : Int), Value.complex FloatKind.f64 x1 x2, Value.int .i64 (↑k' : Int), Value.complex FloatKind.f64 x3 x4])], nks := [0] })]) (by kernel_rfl) (by kernel_rfl) ⟨(CallOK.at0 [] 8 (c1 ) (.cons (.ex _) (.cons (.ex _) .nil)) .nil (by kernel_rfl)), trivial⟩ ?_
    refine AG.rk 1 [0, 1, 5, 6] [8] 9 (todo' := [.code (sub (codeOf Try.f3) [1, 1, 1, 0]), .code (sub (codeOf Try.f3) [1, 1, 1, 1])]) (st' := ⟨mkT 77 [(0, .ex (.int .i64 (↑alg : Int))), (1, .ex (.int .i64 (↑n : Int))), (5, .o 8 0 2), (6, .ex (.int .i64 0))], [(8, .rowX 2 [Value.int .i64 (↑k : Int), Value.complex FloatKind.f64 x1 x2, Value.int .i64 (↑k' : Int), Value.complex FloatKind.f64 x3 x4])], 9⟩) (by kernel_rfl) (by kernel_rfl) ?_
    refine AG.gk [] [(2, useR [] 17 ({ val := .tup [.s 0 0 2 2, .ex (.int .i64 0)], upd := [(0, .own [Value.int .i64 (↑k : Int), Value.int .i64 (↑a : Int), Value.int .i64 (↑s : Int), Value.int .i64 (↑k' : Int), Value.int .i64 (↑a' : Int), Value.int .i64 (↑s' : Int)])], nks := [0] }))] [5, 6, 7, 8] [8, 17] 18 (st' := ⟨mkT 77 [(5, .o 8 0 2), (6, .ex (.int .i64 0)), (7, .s 17 0 2 2), (8, .ex (.int .i64 0))], [(8, .rowX 2 [Value.int .i64 (↑k : Int), Value.complex FloatKind.f64 x1 x2, Value.int .i64 (↑k' : Int), Value.complex FloatKind.f64 x3 x4]), (17, .own [Value.int .i64 (↑k : Int), Value.int .i64 (↑a : Int), Value.int .i64 (↑s : Int), Value.int .i64 (↑k' : Int), Value.int .i64 (↑a' : Int), Value.int .i64 (↑s' : Int)])], 18⟩) (obs := [Ob.call (fun g => List.lookup g []) 12 [.ex (.int .i64 (↑alg : Int)), .ex (.int .i64 (↑n : Int))] [] (useR [] 17 { val := .tup [.s 0 0 2 2, .ex (.int .i64 0)], upd := [(0, .own [Value.int .i64 (↑k : Int), Value.int .i64 (↑a : Int), Value.int .i64 (↑s : Int), Value.int .i64 (↑k' : Int), Value.int .i64 (↑a' : Int), Value.int .i64 (↑s' : Int)])], nks := [0] })]) (by kernel_rfl) (by kernel_rfl) ⟨(CallOK.at0 [] 17 (c2 ) (.cons (.ex _) (.cons (.ex _) .nil)) .nil (by kernel_rfl)), trivial⟩ ?_
    refine AG.rk 9 [5, 7, 9] [8, 17] 18 (todo' := [.code (sub (codeOf Try.f3) [1, 1, 1, 1, 1, 0, 1, 0]), .inBlock 0, .code (sub (codeOf Try.f3) [1, 1, 1, 1, 1, 1])]) (st' := ⟨mkT 77 [(5, .o 8 0 2), (7, .s 17 0 2 2), (9, .ex (.int .i64 0))], [(8, .rowX 2 [Value.int .i64 (↑k : Int), Value.complex FloatKind.f64 x1 x2, Value.int .i64 (↑k' : Int), Value.complex FloatKind.f64 x3 x4]), (17, .own [Value.int .i64 (↑k : Int), Value.int .i64 (↑a : Int), Value.int .i64 (↑s : Int), Value.int .i64 (↑k' : Int), Value.int .i64 (↑a' : Int), Value.int .i64 (↑s' : Int)])], 18⟩) (by kernel_rfl) (by kernel_rfl) ?_
    refine AG.rk 9 [5, 7, 9] [8, 17] 18 (todo' := [.code (sub (codeOf Try.f3) [1, 1, 1, 1, 1, 0, 1, 0, 0, 1, 0, 0, 0]), .code (sub (codeOf Try.f3) [1, 1, 1, 1, 1, 0, 1, 0, 0, 1, 0, 0, 1]), .inBlock 1, .code (sub (codeOf Try.f3) [1, 1, 1, 1, 1, 0, 1, 0, 0, 1, 1]), .inLoop (sub (codeOf Try.f3) [1, 1, 1, 1, 1, 0, 1, 0, 0]), .inBlock 0, .code (sub (codeOf Try.f3) [1, 1, 1, 1, 1, 1])]) (st' := ⟨mkT 77 [(5, .o 8 0 2), (7, .s 17 0 2 2), (9, .ex (.int .i64 0))], [(8, .rowX 2 [Value.int .i64 (↑k : Int), Value.complex FloatKind.f64 x1 x2, Value.int .i64 (↑k' : Int), Value.complex FloatKind.f64 x3 x4]), (17, .own [Value.int .i64 (↑k : Int), Value.int .i64 (↑a : Int), Value.int .i64 (↑s : Int), Value.int .i64 (↑k' : Int), Value.int .i64 (↑a' : Int), Value.int .i64 (↑s' : Int)])], 18⟩) (by kernel_rfl) (by kernel_rfl) ?_
    refine AG.gk [] [(10, { val := .ex (.bool false) }), (22, { val := .ex (.float FloatKind.f64 x1) }), (28, { val := .ex (.float FloatKind.f64 x2) }), (30, { val := .ex (.bool false) })] [5, 7, 9, 75] [8, 17] 18 (st' := ⟨mkT 77 [(5, .o 8 0 2), (7, .s 17 0 2 2), (9, .ex (.int .i64 0)), (75, .ex (.bool false))], [(8, .rowX 2 [Value.int .i64 (↑k : Int), Value.complex FloatKind.f64 x1 x2, Value.int .i64 (↑k' : Int), Value.complex FloatKind.f64 x3 x4]), (17, .own [Value.int .i64 (↑k : Int), Value.int .i64 (↑a : Int), Value.int .i64 (↑s : Int), Value.int .i64 (↑k' : Int), Value.int .i64 (↑a' : Int), Value.int .i64 (↑s' : Int)])], 18⟩) (obs := [Ob.eq (.ex (.bool ((↑k : Int) != (↑k : Int)))) (.ex (.bool false)), Ob.eq (.ex (.float FloatKind.f64 (fb a))) (.ex (.float FloatKind.f64 x1)), Ob.eq (.ex (.float FloatKind.f64 (fb s))) (.ex (.float FloatKind.f64 x2)), Ob.eq (.ex (.bool !(Ieee.Format.order (FloatKind.format FloatKind.f64) x1 x1 == some Ordering.eq && Ieee.Format.order (FloatKind.format FloatKind.f64) x2 x2 == some Ordering.eq))) (.ex (.bool false))]) (by kernel_rfl) (by kernel_rfl) ⟨(by simp only [Ob.holds, n1]), (by simp only [Ob.holds, f1]), (by simp only [Ob.holds, f2]), (by first | (simp only [Ob.holds, g1, g2, f1, f2, f3, f4, e1, e2, e3, e4, n1]; done) | (simp only [Ob.holds, g1, g2, f1, f2, f3, f4, e1, e2, e3, e4, n1]; rfl)), trivial⟩ ?_
    refine AG.rk 13 [5, 7, 9] [8, 17] 18 (todo' := [.code (sub (codeOf Try.f3) [1, 1, 1, 1, 1, 0, 1, 0, 0, 1, 0, 0, 0]), .code (sub (codeOf Try.f3) [1, 1, 1, 1, 1, 0, 1, 0, 0, 1, 0, 0, 1]), .inBlock 1, .code (sub (codeOf Try.f3) [1, 1, 1, 1, 1, 0, 1, 0, 0, 1, 1]), .inLoop (sub (codeOf Try.f3) [1, 1, 1, 1, 1, 0, 1, 0, 0]), .inBlock 0, .code (sub (codeOf Try.f3) [1, 1, 1, 1, 1, 1])]) (st' := ⟨mkT 77 [(5, .o 8 0 2), (7, .s 17 0 2 2), (9, .ex (.int .i64 1))], [(8, .rowX 2 [Value.int .i64 (↑k : Int), Value.complex FloatKind.f64 x1 x2, Value.int .i64 (↑k' : Int), Value.complex FloatKind.f64 x3 x4]), (17, .own [Value.int .i64 (↑k : Int), Value.int .i64 (↑a : Int), Value.int .i64 (↑s : Int), Value.int .i64 (↑k' : Int), Value.int .i64 (↑a' : Int), Value.int .i64 (↑s' : Int)])], 18⟩) (by kernel_rfl) (by kernel_rfl) ?_
    refine AG.gk [] [(10, { val := .ex (.bool false) }), (22, { val := .ex (.float FloatKind.f64 x3) }), (28, { val := .ex (.float FloatKind.f64 x4) }), (30, { val := .ex (.bool false) })] [5, 7, 9, 75] [8, 17] 18 (st' := ⟨mkT 77 [(5, .o 8 0 2), (7, .s 17 0 2 2), (9, .ex (.int .i64 1)), (75, .ex (.bool false))], [(8, .rowX 2 [Value.int .i64 (↑k : Int), Value.complex FloatKind.f64 x1 x2, Value.int .i64 (↑k' : Int), Value.complex FloatKind.f64 x3 x4]), (17, .own [Value.int .i64 (↑k : Int), Value.int .i64 (↑a : Int), Value.int .i64 (↑s : Int), Value.int .i64 (↑k' : Int), Value.int .i64 (↑a' : Int), Value.int .i64 (↑s' : Int)])], 18⟩) (obs := [Ob.eq (.ex (.bool ((↑k' : Int) != (↑k' : Int)))) (.ex (.bool false)), Ob.eq (.ex (.float FloatKind.f64 (fb a'))) (.ex (.float FloatKind.f64 x3)), Ob.eq (.ex (.float FloatKind.f64 (fb s'))) (.ex (.float FloatKind.f64 x4)), Ob.eq (.ex (.bool !(Ieee.Format.order (FloatKind.format FloatKind.f64) x3 x3 == some Ordering.eq && Ieee.Format.order (FloatKind.format FloatKind.f64) x4 x4 == some Ordering.eq))) (.ex (.bool false))]) (by kernel_rfl) (by kernel_rfl) ⟨(by simp only [Ob.holds, n1]), (by simp only [Ob.holds, f3]), (by simp only [Ob.holds, f4]), (by first | (simp only [Ob.holds, g1, g2, f1, f2, f3, f4, e1, e2, e3, e4, n1]; done) | (simp only [Ob.holds, g1, g2, f1, f2, f3, f4, e1, e2, e3, e4, n1]; rfl)), trivial⟩ ?_
    refine AG.rk 11 [] [] 0 (todo' := [.code (sub (codeOf Try.f3) [1, 1, 1, 1, 1, 1, 0]), .code (sub (codeOf Try.f3) [1, 0, 1, 0, 1])]) (st' := ⟨mkT 77 [], [], 0⟩) (by kernel_rfl) (by kernel_rfl) ?_
    refine AG.gk [] [(0, { val := .ex (.bool true) })] [4] [] 0 (st' := ⟨mkT 77 [(4, .ex (.bool true))], [], 0⟩) (obs := [Ob.call (fun g => List.lookup g []) 13 [] [] { val := .ex (.bool true) }]) (by kernel_rfl) (by kernel_rfl) ⟨((Go.Proofs.Ytngmlkkcjjfiaaa.Ab.awake_ok ).gl), trivial⟩ ?_
    refine AG.fin ([.ex (.bool true)]) Go.Proofs.Try.f3 fn3 (.inr ⟨_, rfl⟩) (obs := []) (by kernel_rfl) trivial (by kernel_rfl) trivial (by kernel_rfl)
  · have g1 : decide ((n : Int) > 3000) = false := by simp; omega
    refine CallOK.from0 hmix Try.f3 0 fn3 (by kernel_rfl) (by kernel_rfl) (fun w ρ h1 h2 => ?_)
    refine AG.rk 4 [0, 1] [] 0 (todo' := [.code (sub (codeOf Try.f3) [1, 0, 0]), .code (sub (codeOf Try.f3) [1, 0, 1]), .code (sub (codeOf Try.f3) [1, 1])]) (st' := ⟨mkT 77 [(0, .ex (.int .i64 (↑alg : Int))), (1, .ex (.int .i64 (↑n : Int)))], [], 0⟩) (by kernel_rfl) (by kernel_rfl) ?_
    refine AG.gk [] [(1, { val := .ex (.bool false) })] [0, 1, 15] [] 0 (st' := ⟨mkT 77 [(0, .ex (.int .i64 (↑alg : Int))), (1, .ex (.int .i64 (↑n : Int))), (15, .ex (.bool false))], [], 0⟩) (obs := [Ob.eq (.ex (.bool (decide ((↑n : Int) > 3000)))) (.ex (.bool false))]) (by kernel_rfl) (by kernel_rfl) ⟨(by simp only [Ob.holds, g1]), trivial⟩ ?_
    refine AG.rk 3 [0, 1] [] 0 (todo' := [.code (sub (codeOf Try.f3) [1, 1, 0]), .code (sub (codeOf Try.f3) [1, 1, 1])]) (st' := ⟨mkT 77 [(0, .ex (.int .i64 (↑alg : Int))), (1, .ex (.int .i64 (↑n : Int)))], [], 0⟩) (by kernel_rfl) (by kernel_rfl) ?_
    refine AG.gk [] [(2, useR [] 8 ({ val := .tup [.o 0 0 2, .ex (.int .i64 0)], upd := [(0, .rowX 2 [Value.int .i64 (↑k : Int), Value.complex FloatKind.f64 x1 x2, Value.int .i64 (↑k' : Int), Value.complex FloatKind.f64 x3 x4])], nks := [0] }))] [0, 1, 5, 6] [8] 9 (st' := ⟨mkT 77 [(0, .ex (.int .i64 (↑alg : Int))), (1, .ex (.int .i64 (↑n : Int))), (5, .o 8 0 2), (6, .ex (.int .i64 0))], [(8, .rowX 2 [Value.int .i64 (↑k : Int), Value.complex FloatKind.f64 x1 x2, Value.int .i64 (↑k' : Int), Value.complex FloatKind.f64 x3 x4])], 9⟩) (obs := [Ob.call (fun g => List.lookup g []) 11 [.ex (.int .i64 (↑alg : Int)), .ex (.int .i64 (↑n : Int))] [] (useR [] 8 { val := .tup [.o 0 0 2, .ex (.int .i64 0)], upd := [(0, .rowX 2 [Value.int .i64 (↑k : Int), Value.complex FloatKind.f64 x1 x2, Value.int .i64 (↑k' : Int), Value.complex FloatKind.f64 x3 x4])], nks := [0] })]) (by kernel_rfl) (by kernel_rfl) ⟨(CallOK.at0 [] 8 (c1 ) (.cons (.ex _) (.cons (.ex _) .nil)) .nil (by kernel_rfl)), trivial⟩ ?_
    refine AG.rk 1 [0, 1, 5, 6] [8] 9 (todo' := [.code (sub (codeOf Try.f3) [1, 1, 1, 0]), .code (sub (codeOf Try.f3) [1, 1, 1, 1])]) (st' := ⟨mkT 77 [(0, .ex (.int .i64 (↑alg : Int))), (1, .ex (.int .i64 (↑n : Int))), (5, .o 8 0 2), (6, .ex (.int .i64 0))], [(8, .rowX 2 [Value.int .i64 (↑k : Int), Value.complex FloatKind.f64 x1 x2, Value.int .i64 (↑k' : Int), Value.complex FloatKind.f64 x3 x4])], 9⟩) (by kernel_rfl) (by kernel_rfl) ?_
    refine AG.gk [] [(2, useR [] 17 ({ val := .tup [.s 0 0 2 2, .ex (.int .i64 0)], upd := [(0, .own [Value.int .i64 (↑k : Int), Value.int .i64 (↑a : Int), Value.int .i64 (↑s : Int), Value.int .i64 (↑k' : Int), Value.int .i64 (↑a' : Int), Value.int .i64 (↑s' : Int)])], nks := [0] }))] [5, 6, 7, 8] [8, 17] 18 (st' := ⟨mkT 77 [(5, .o 8 0 2), (6, .ex (.int .i64 0)), (7, .s 17 0 2 2), (8, .ex (.int .i64 0))], [(8, .rowX 2 [Value.int .i64 (↑k : Int), Value.complex FloatKind.f64 x1 x2, Value.int .i64 (↑k' : Int), Value.complex FloatKind.f64 x3 x4]), (17, .own [Value.int .i64 (↑k : Int), Value.int .i64 (↑a : Int), Value.int .i64 (↑s : Int), Value.int .i64 (↑k' : Int), Value.int .i64 (↑a' : Int), Value.int .i64 (↑s' : Int)])], 18⟩) (obs := [Ob.call (fun g => List.lookup g []) 12 [.ex (.int .i64 (↑alg : Int)), .ex (.int .i64 (↑n : Int))] [] (useR [] 17 { val := .tup [.s 0 0 2 2, .ex (.int .i64 0)], upd := [(0, .own [Value.int .i64 (↑k : Int), Value.int .i64 (↑a : Int), Value.int .i64 (↑s : Int), Value.int .i64 (↑k' : Int), Value.int .i64 (↑a' : Int), Value.int .i64 (↑s' : Int)])], nks := [0] })]) (by kernel_rfl) (by kernel_rfl) ⟨(CallOK.at0 [] 17 (c2 ) (.cons (.ex _) (.cons (.ex _) .nil)) .nil (by kernel_rfl)), trivial⟩ ?_
    refine AG.rk 9 [5, 7, 9] [8, 17] 18 (todo' := [.code (sub (codeOf Try.f3) [1, 1, 1, 1, 1, 0, 1, 0]), .inBlock 0, .code (sub (codeOf Try.f3) [1, 1, 1, 1, 1, 1])]) (st' := ⟨mkT 77 [(5, .o 8 0 2), (7, .s 17 0 2 2), (9, .ex (.int .i64 0))], [(8, .rowX 2 [Value.int .i64 (↑k : Int), Value.complex FloatKind.f64 x1 x2, Value.int .i64 (↑k' : Int), Value.complex FloatKind.f64 x3 x4]), (17, .own [Value.int .i64 (↑k : Int), Value.int .i64 (↑a : Int), Value.int .i64 (↑s : Int), Value.int .i64 (↑k' : Int), Value.int .i64 (↑a' : Int), Value.int .i64 (↑s' : Int)])], 18⟩) (by kernel_rfl) (by kernel_rfl) ?_
    refine AG.rk 9 [5, 7, 9] [8, 17] 18 (todo' := [.code (sub (codeOf Try.f3) [1, 1, 1, 1, 1, 0, 1, 0, 0, 1, 0, 0, 0]), .code (sub (codeOf Try.f3) [1, 1, 1, 1, 1, 0, 1, 0, 0, 1, 0, 0, 1]), .inBlock 1, .code (sub (codeOf Try.f3) [1, 1, 1, 1, 1, 0, 1, 0, 0, 1, 1]), .inLoop (sub (codeOf Try.f3) [1, 1, 1, 1, 1, 0, 1, 0, 0]), .inBlock 0, .code (sub (codeOf Try.f3) [1, 1, 1, 1, 1, 1])]) (st' := ⟨mkT 77 [(5, .o 8 0 2), (7, .s 17 0 2 2), (9, .ex (.int .i64 0))], [(8, .rowX 2 [Value.int .i64 (↑k : Int), Value.complex FloatKind.f64 x1 x2, Value.int .i64 (↑k' : Int), Value.complex FloatKind.f64 x3 x4]), (17, .own [Value.int .i64 (↑k : Int), Value.int .i64 (↑a : Int), Value.int .i64 (↑s : Int), Value.int .i64 (↑k' : Int), Value.int .i64 (↑a' : Int), Value.int .i64 (↑s' : Int)])], 18⟩) (by kernel_rfl) (by kernel_rfl) ?_
    refine AG.gk [] [(10, { val := .ex (.bool false) }), (22, { val := .ex (.float FloatKind.f64 x1) }), (28, { val := .ex (.float FloatKind.f64 x2) }), (30, { val := .ex (.bool false) })] [5, 7, 9, 75] [8, 17] 18 (st' := ⟨mkT 77 [(5, .o 8 0 2), (7, .s 17 0 2 2), (9, .ex (.int .i64 0)), (75, .ex (.bool false))], [(8, .rowX 2 [Value.int .i64 (↑k : Int), Value.complex FloatKind.f64 x1 x2, Value.int .i64 (↑k' : Int), Value.complex FloatKind.f64 x3 x4]), (17, .own [Value.int .i64 (↑k : Int), Value.int .i64 (↑a : Int), Value.int .i64 (↑s : Int), Value.int .i64 (↑k' : Int), Value.int .i64 (↑a' : Int), Value.int .i64 (↑s' : Int)])], 18⟩) (obs := [Ob.eq (.ex (.bool ((↑k : Int) != (↑k : Int)))) (.ex (.bool false)), Ob.eq (.ex (.float FloatKind.f64 (fb a))) (.ex (.float FloatKind.f64 x1)), Ob.eq (.ex (.float FloatKind.f64 (fb s))) (.ex (.float FloatKind.f64 x2)), Ob.eq (.ex (.bool !(Ieee.Format.order (FloatKind.format FloatKind.f64) x1 x1 == some Ordering.eq && Ieee.Format.order (FloatKind.format FloatKind.f64) x2 x2 == some Ordering.eq))) (.ex (.bool false))]) (by kernel_rfl) (by kernel_rfl) ⟨(by simp only [Ob.holds, n1]), (by simp only [Ob.holds, f1]), (by simp only [Ob.holds, f2]), (by first | (simp only [Ob.holds, g1, f1, f2, f3, f4, e1, e2, e3, e4, n1]; done) | (simp only [Ob.holds, g1, f1, f2, f3, f4, e1, e2, e3, e4, n1]; rfl)), trivial⟩ ?_
    refine AG.rk 13 [5, 7, 9] [8, 17] 18 (todo' := [.code (sub (codeOf Try.f3) [1, 1, 1, 1, 1, 0, 1, 0, 0, 1, 0, 0, 0]), .code (sub (codeOf Try.f3) [1, 1, 1, 1, 1, 0, 1, 0, 0, 1, 0, 0, 1]), .inBlock 1, .code (sub (codeOf Try.f3) [1, 1, 1, 1, 1, 0, 1, 0, 0, 1, 1]), .inLoop (sub (codeOf Try.f3) [1, 1, 1, 1, 1, 0, 1, 0, 0]), .inBlock 0, .code (sub (codeOf Try.f3) [1, 1, 1, 1, 1, 1])]) (st' := ⟨mkT 77 [(5, .o 8 0 2), (7, .s 17 0 2 2), (9, .ex (.int .i64 1))], [(8, .rowX 2 [Value.int .i64 (↑k : Int), Value.complex FloatKind.f64 x1 x2, Value.int .i64 (↑k' : Int), Value.complex FloatKind.f64 x3 x4]), (17, .own [Value.int .i64 (↑k : Int), Value.int .i64 (↑a : Int), Value.int .i64 (↑s : Int), Value.int .i64 (↑k' : Int), Value.int .i64 (↑a' : Int), Value.int .i64 (↑s' : Int)])], 18⟩) (by kernel_rfl) (by kernel_rfl) ?_
    refine AG.gk [] [(10, { val := .ex (.bool false) }), (22, { val := .ex (.float FloatKind.f64 x3) }), (28, { val := .ex (.float FloatKind.f64 x4) }), (30, { val := .ex (.bool false) })] [5, 7, 9, 75] [8, 17] 18 (st' := ⟨mkT 77 [(5, .o 8 0 2), (7, .s 17 0 2 2), (9, .ex (.int .i64 1)), (75, .ex (.bool false))], [(8, .rowX 2 [Value.int .i64 (↑k : Int), Value.complex FloatKind.f64 x1 x2, Value.int .i64 (↑k' : Int), Value.complex FloatKind.f64 x3 x4]), (17, .own [Value.int .i64 (↑k : Int), Value.int .i64 (↑a : Int), Value.int .i64 (↑s : Int), Value.int .i64 (↑k' : Int), Value.int .i64 (↑a' : Int), Value.int .i64 (↑s' : Int)])], 18⟩) (obs := [Ob.eq (.ex (.bool ((↑k' : Int) != (↑k' : Int)))) (.ex (.bool false)), Ob.eq (.ex (.float FloatKind.f64 (fb a'))) (.ex (.float FloatKind.f64 x3)), Ob.eq (.ex (.float FloatKind.f64 (fb s'))) (.ex (.float FloatKind.f64 x4)), Ob.eq (.ex (.bool !(Ieee.Format.order (FloatKind.format FloatKind.f64) x3 x3 == some Ordering.eq && Ieee.Format.order (FloatKind.format FloatKind.f64) x4 x4 == some Ordering.eq))) (.ex (.bool false))]) (by kernel_rfl) (by kernel_rfl) ⟨(by simp only [Ob.holds, n1]), (by simp only [Ob.holds, f3]), (by simp only [Ob.holds, f4]), (by first | (simp only [Ob.holds, g1, f1, f2, f3, f4, e1, e2, e3, e4, n1]; done) | (simp only [Ob.holds, g1, f1, f2, f3, f4, e1, e2, e3, e4, n1]; rfl)), trivial⟩ ?_
    refine AG.rk 11 [] [] 0 (todo' := [.code (sub (codeOf Try.f3) [1, 1, 1, 1, 1, 1, 0]), .code (sub (codeOf Try.f3) [1, 0, 1, 0, 1])]) (st' := ⟨mkT 77 [], [], 0⟩) (by kernel_rfl) (by kernel_rfl) ?_
    refine AG.gk [] [(0, { val := .ex (.bool true) })] [4] [] 0 (st' := ⟨mkT 77 [(4, .ex (.bool true))], [], 0⟩) (obs := [Ob.call (fun g => List.lookup g []) 13 [] [] { val := .ex (.bool true) }]) (by kernel_rfl) (by kernel_rfl) ⟨((Go.Proofs.Ytngmlkkcjjfiaaa.Ab.awake_ok ).gl), trivial⟩ ?_
    refine AG.fin ([.ex (.bool true)]) Go.Proofs.Try.f3 fn3 (.inr ⟨_, rfl⟩) (obs := []) (by kernel_rfl) trivial (by kernel_rfl) trivial (by kernel_rfl)
theorem cpartsA_ok (n : Nat) (h32 : 32 ≤ n) (hn : n ≤ 3000) : CallOK Try.prog (fun _ => none) 3 [.ex (.int .i64 3), .ex (.int .i64 (n : Int))] [] { val := .ex (.bool true) } := by
  have g1 : decide ((n : Int) > 3000) = false := by simp; omega
  have c1 := parts_ok 3 n (.inr (.inr rfl)) (by omega) (by omega) (fun h => absurd rfl h)
  have hL : partL 3 n = aezL n := by unfold partL; rw [if_neg (by decide), if_neg (by decide), if_neg (by omega)]
  rw [hL] at c1
  have c2 := rpartsA_ok n h32 (by omega)
  have hlen := aez_len n (by omega)
  have hall := aez_all n h32 (by omega)
  generalize aezL n = L at *
  obtain ⟨q, hq⟩ : ∃ q, q = L.length := ⟨_, rfl⟩
  obtain ⟨D, hD⟩ : ∃ D, D = pc L := ⟨_, rfl⟩
  obtain ⟨E, hE⟩ : ∃ D, D = rc L := ⟨_, rfl⟩
  rw [← hq, ← hD] at c1
  rw [← hq, ← hE] at c2
  have hDl : D.length = 2 * q := by rw [hD, pc_len, hq]
  have hEl : E.length = 3 * q := by rw [hE, rc_len, hq]
  have n1 : ∀ z : Nat, ((z : Int) != (z : Int)) = false := fun z => by simp
  refine CallOK.from0 hmix Try.f3 0 fn3 (by kernel_rfl) (by kernel_rfl) (fun w ρ h1 h2 => ?_)
  refine AG.rk 4 [0, 1] [] 0 (todo' := [.code (sub (codeOf Try.f3) [1, 0, 0]), .code (sub (codeOf Try.f3) [1, 0, 1]), .code (sub (codeOf Try.f3) [1, 1])]) (st' := ⟨mkT 77 [(0, .ex (.int .i64 3)), (1, .ex (.int .i64 (↑n : Int)))], [], 0⟩) (by kernel_rfl) (by kernel_rfl) ?_
  refine AG.gk [] [(1, { val := .ex (.bool false) })] [0, 1, 15] [] 0 (st' := ⟨mkT 77 [(0, .ex (.int .i64 3)), (1, .ex (.int .i64 (↑n : Int))), (15, .ex (.bool false))], [], 0⟩) (obs := [Ob.eq (.ex (.bool (decide ((↑n : Int) > 3000)))) (.ex (.bool false))]) (by kernel_rfl) (by kernel_rfl) ⟨(by simp only [Ob.holds, g1]), trivial⟩ ?_
  refine AG.rk 3 [0, 1] [] 0 (todo' := [.code (sub (codeOf Try.f3) [1, 1, 0]), .code (sub (codeOf Try.f3) [1, 1, 1])]) (st' := ⟨mkT 77 [(0, .ex (.int .i64 3)), (1, .ex (.int .i64 (↑n : Int)))], [], 0⟩) (by kernel_rfl) (by kernel_rfl) ?_
  refine AG.gk [] [(2, useR [] 8 ({ val := .tup [.o 0 0 q, .ex (.int .i64 0)], upd := [(0, .rowX 2 D)], nks := [0] }))] [0, 1, 5, 6] [8] 9 (st' := ⟨mkT 77 [(0, .ex (.int .i64 3)), (1, .ex (.int .i64 (↑n : Int))), (5, .o 8 0 q), (6, .ex (.int .i64 0))], [(8, .rowX 2 D)], 9⟩) (obs := [Ob.call (fun g => List.lookup g []) 11 [.ex (.int .i64 3), .ex (.int .i64 (↑n : Int))] [] (useR [] 8 { val := .tup [.o 0 0 q, .ex (.int .i64 0)], upd := [(0, .rowX 2 D)], nks := [0] })]) (by kernel_rfl) (by kernel_rfl) ⟨(CallOK.at0 [] 8 (c1 ) (.cons (.ex _) (.cons (.ex _) .nil)) .nil (by kernel_rfl)), trivial⟩ ?_
  refine AG.rk 1 [0, 1, 5, 6] [8] 9 (todo' := [.code (sub (codeOf Try.f3) [1, 1, 1, 0]), .code (sub (codeOf Try.f3) [1, 1, 1, 1])]) (st' := ⟨mkT 77 [(0, .ex (.int .i64 3)), (1, .ex (.int .i64 (↑n : Int))), (5, .o 8 0 q), (6, .ex (.int .i64 0))], [(8, .rowX 2 D)], 9⟩) (by kernel_rfl) (by kernel_rfl) ?_
  refine AG.gk [] [(2, useR [] 17 ({ val := .tup [.o 0 0 q, .ex (.int .i64 0)], upd := [(0, .rowX 3 E)], nks := [0] }))] [5, 6, 7, 8] [8, 17] 18 (st' := ⟨mkT 77 [(5, .o 8 0 q), (6, .ex (.int .i64 0)), (7, .o 17 0 q), (8, .ex (.int .i64 0))], [(8, .rowX 2 D), (17, .rowX 3 E)], 18⟩) (obs := [Ob.call (fun g => List.lookup g []) 12 [.ex (.int .i64 3), .ex (.int .i64 (↑n : Int))] [] (useR [] 17 { val := .tup [.o 0 0 q, .ex (.int .i64 0)], upd := [(0, .rowX 3 E)], nks := [0] })]) (by kernel_rfl) (by kernel_rfl) ⟨(CallOK.at0 [] 17 (c2 ) (.cons (.ex _) (.cons (.ex _) .nil)) .nil (by kernel_rfl)), trivial⟩ ?_
  refine AG.rk 2 [5, 6, 7, 8] [8, 17] 18 (todo' := [.code (sub (codeOf Try.f3) [1, 1, 1, 1, 0, 0]), .code (sub (codeOf Try.f3) [1, 1, 1, 1, 0, 1]), .code (sub (codeOf Try.f3) [1, 1, 1, 1, 1])]) (st' := ⟨mkT 77 [(5, .o 8 0 q), (6, .ex (.int .i64 0)), (7, .o 17 0 q), (8, .ex (.int .i64 0))], [(8, .rowX 2 D), (17, .rowX 3 E)], 18⟩) (by kernel_rfl) (by kernel_rfl) ?_
  refine AG.gk [] [(8, { val := .ex (.bool false) })] [5, 7, 37] [8, 17] 18 (st' := ⟨mkT 77 [(5, .o 8 0 q), (7, .o 17 0 q), (37, .ex (.bool false))], [(8, .rowX 2 D), (17, .rowX 3 E)], 18⟩) (obs := [Ob.eq (.ex (.bool ((↑q : Int) != (↑q : Int)))) (.ex (.bool false))]) (by kernel_rfl) (by kernel_rfl) ⟨(by simp only [Ob.holds, n1]), trivial⟩ ?_
  refine AG.rk 6 [5, 7, 9] [8, 17] 18 (todo' := [.code (sub (codeOf Try.f3) [1, 1, 1, 1, 1, 0, 1, 0]), .inBlock 0, .code (sub (codeOf Try.f3) [1, 1, 1, 1, 1, 1])]) (st' := ⟨mkT 77 [(5, .o 8 0 q), (7, .o 17 0 q), (9, .ex (.int .i64 0))], [(8, .rowX 2 D), (17, .rowX 3 E)], 18⟩) (by kernel_rfl) (by kernel_rfl) ?_
  refine AG.rk 1 [5, 7, 9] [8, 17] 18 (todo' := [.code (sub (codeOf Try.f3) [1, 1, 1, 1, 1, 0, 1, 0, 0]), .inLoop (sub (codeOf Try.f3) [1, 1, 1, 1, 1, 0, 1, 0, 0]), .inBlock 0, .code (sub (codeOf Try.f3) [1, 1, 1, 1, 1, 1])]) (st' := ⟨mkT 77 [(5, .o 8 0 q), (7, .o 17 0 q), (9, .ex (.int .i64 0))], [(8, .rowX 2 D), (17, .rowX 3 E)], 18⟩) (by kernel_rfl) (by kernel_rfl) ?_
  refine AG.indE (α := {x : Nat // x ≤ q}) (fun x => q - x.1)
    (fun x => ⟨mkT 77 [(5, .o 8 0 q), (7, .o 17 0 q), (9, .ex (.int .i64 (x.1 : Int)))], [(8, .rowX 2 D), (17, .rowX 3 E)], 18⟩) ⟨0, by omega⟩ (by kernel_rfl) ?_
  rintro ⟨i, hi⟩ ih
  simp only at hi ih ⊢
  refine AG.rk 3 [5, 7, 9, 41] [8, 17] 18 (todo' := [.code (sub (codeOf Try.f3) [1, 1, 1, 1, 1, 0, 1, 0, 0, 0, 1]), .code (sub (codeOf Try.f3) [1, 1, 1, 1, 1, 0, 1, 0, 0, 1]), .inLoop (sub (codeOf Try.f3) [1, 1, 1, 1, 1, 0, 1, 0, 0]), .inBlock 0, .code (sub (codeOf Try.f3) [1, 1, 1, 1, 1, 1])]) (st' := ⟨mkT 77 [(5, .o 8 0 q), (7, .o 17 0 q), (9, .ex (.int .i64 (↑i : Int))), (41, .ex (.bool (decide ((↑i : Int) < (↑q : Int)))))], [(8, .rowX 2 D), (17, .rowX 3 E)], 18⟩) (by kernel_rfl) (by kernel_rfl) ?_
  refine AG.cond (b := decide ((↑i : Int) < (↑q : Int))) (by kernel_rfl) (fun hc => ?_) (fun hc => ?_)
  · have hi' : i < q := by simp at hc; omega
    clear hc
    obtain ⟨p, hp⟩ : ∃ p, L[i]? = some p := ⟨L[i], List.getElem?_eq_getElem (by omega)⟩
    have hpa := hall p (List.mem_of_getElem? hp)
    obtain ⟨k, a, s⟩ := p
    simp only at hpa
    have d0 := pc_get L i _ hp
    have d1 := rc_get L i _ hp
    rw [← hD] at d0
    rw [← hE] at d1
    simp only at d0 d1
    have v5 : IntKind.i64.wrap ((i : Int) + 1) = ((i + 1 : Nat) : Int) := by rw [wrap64_id _ (by omega) (by omega)]; omega
    have k0 : D.getD (0 + (i : Int).toNat * 2 + 0) undef = .int .i64 (k : Int) := by rw [Int.toNat_natCast, List.getD_eq_getElem?_getD, show 0 + i * 2 + 0 = 2 * i by omega, d0.1]; rfl
    have k1 : D.getD (0 + (i : Int).toNat * 2 + 1) undef = .complex .f64 (fb a) (fb s) := by rw [Int.toNat_natCast, List.getD_eq_getElem?_getD, show 0 + i * 2 + 1 = 2 * i + 1 by omega, d0.2]; rfl
    have k2 : E.getD (0 + (i : Int).toNat * 3 + 0) undef = .int .i64 (k : Int) := by rw [Int.toNat_natCast, List.getD_eq_getElem?_getD, show 0 + i * 3 + 0 = 3 * i by omega, d1.1]; rfl
    have k3 : E.getD (0 + (i : Int).toNat * 3 + 1) undef = .int .i64 (a : Int) := by rw [Int.toNat_natCast, List.getD_eq_getElem?_getD, show 0 + i * 3 + 1 = 3 * i + 1 by omega, d1.2.1]; rfl
    have k4 : E.getD (0 + (i : Int).toNat * 3 + 2) undef = .int .i64 (s : Int) := by rw [Int.toNat_natCast, List.getD_eq_getElem?_getD, show 0 + i * 3 + 2 = 3 * i + 2 by omega, d1.2.2]; rfl
    have o1 := eq_fb a a (by omega) (by omega)
    have o2 := eq_fb s s (by omega) (by omega)
    rw [decide_eq_true rfl] at o1 o2
    have ih1 := ih ⟨i + 1, by omega⟩ (by simp only; omega)
    simp only at ih1
    generalize f1 : fb a = x1 at *
    generalize f2 : fb s = x2 at *
    clear d0 d1 hp
    refine AG.rk 4 [5, 7, 9] [8, 17] 18 (todo' := [.code (sub (codeOf Try.f3) [1, 1, 1, 1, 1, 0, 1, 0, 0, 1, 0, 0, 0]), .code (sub (codeOf Try.f3) [1, 1, 1, 1, 1, 0, 1, 0, 0, 1, 0, 0, 1]), .inBlock 1, .code (sub (codeOf Try.f3) [1, 1, 1, 1, 1, 0, 1, 0, 0, 1, 1]), .inLoop (sub (codeOf Try.f3) [1, 1, 1, 1, 1, 0, 1, 0, 0]), .inBlock 0, .code (sub (codeOf Try.f3) [1, 1, 1, 1, 1, 1])]) (st' := ⟨mkT 77 [(5, .o 8 0 q), (7, .o 17 0 q), (9, .ex (.int .i64 (↑i : Int)))], [(8, .rowX 2 D), (17, .rowX 3 E)], 18⟩) (by kernel_rfl) (by kernel_rfl) ?_
    refine AG.gk [2, 7, 14, 19, 25] [(4, { val := .ex (.int .i64 (↑k : Int)) }), (9, { val := .ex (.int .i64 (↑k : Int)) }), (10, { val := .ex (.bool false) }), (16, { val := .ex (.complex FloatKind.f64 x1 x2) }), (21, { val := .ex (.int .i64 (↑a : Int)) }), (22, { val := .ex (.float FloatKind.f64 x1) }), (27, { val := .ex (.int .i64 (↑s : Int)) }), (28, { val := .ex (.float FloatKind.f64 x2) }), (30, { val := .ex (.bool false) })] [5, 7, 9, 75] [8, 17] 18 (st' := ⟨mkT 77 [(5, .o 8 0 q), (7, .o 17 0 q), (9, .ex (.int .i64 (↑i : Int))), (75, .ex (.bool false))], [(8, .rowX 2 D), (17, .rowX 3 E)], 18⟩) (obs := [Ob.ix (↑i : Int) q, Ob.eq (.ex (List.getD D (0 + Int.toNat (↑i : Int) * 2 + 0) undef)) (.ex (.int .i64 (↑k : Int))), Ob.le (0 + Int.toNat (↑i : Int) * 2 + 0 + 1) (List.length D), Ob.ix (↑i : Int) q, Ob.eq (.ex (List.getD E (0 + Int.toNat (↑i : Int) * 3 + 0) undef)) (.ex (.int .i64 (↑k : Int))), Ob.le (0 + Int.toNat (↑i : Int) * 3 + 0 + 1) (List.length E), Ob.eq (.ex (.bool ((↑k : Int) != (↑k : Int)))) (.ex (.bool false)), Ob.ix (↑i : Int) q, Ob.eq (.ex (List.getD D (0 + Int.toNat (↑i : Int) * 2 + 1) undef)) (.ex (.complex FloatKind.f64 x1 x2)), Ob.le (0 + Int.toNat (↑i : Int) * 2 + 1 + 1) (List.length D), Ob.ix (↑i : Int) q, Ob.eq (.ex (List.getD E (0 + Int.toNat (↑i : Int) * 3 + 1) undef)) (.ex (.int .i64 (↑a : Int))), Ob.le (0 + Int.toNat (↑i : Int) * 3 + 1 + 1) (List.length E), Ob.eq (.ex (.float FloatKind.f64 (fb a))) (.ex (.float FloatKind.f64 x1)), Ob.ix (↑i : Int) q, Ob.eq (.ex (List.getD E (0 + Int.toNat (↑i : Int) * 3 + 2) undef)) (.ex (.int .i64 (↑s : Int))), Ob.le (0 + Int.toNat (↑i : Int) * 3 + 2 + 1) (List.length E), Ob.eq (.ex (.float FloatKind.f64 (fb s))) (.ex (.float FloatKind.f64 x2)), Ob.eq (.ex (.bool !(Ieee.Format.order (FloatKind.format FloatKind.f64) x1 x1 == some Ordering.eq && Ieee.Format.order (FloatKind.format FloatKind.f64) x2 x2 == some Ordering.eq))) (.ex (.bool false))]) (by kernel_rfl) (by kernel_rfl) ⟨(by (simp only [Ob.holds]; omega)), (by simp only [Ob.holds, k0]), (by (simp only [Ob.holds]; omega)), (by (simp only [Ob.holds]; omega)), (by simp only [Ob.holds, k2]), (by (simp only [Ob.holds]; omega)), (by simp only [Ob.holds, n1]), (by (simp only [Ob.holds]; omega)), (by simp only [Ob.holds, k1]), (by (simp only [Ob.holds]; omega)), (by (simp only [Ob.holds]; omega)), (by simp only [Ob.holds, k3]), (by (simp only [Ob.holds]; omega)), (by simp only [Ob.holds, f1]), (by (simp only [Ob.holds]; omega)), (by simp only [Ob.holds, k4]), (by (simp only [Ob.holds]; omega)), (by simp only [Ob.holds, f2]), (by first | (simp only [Ob.holds, k0, k1, k2, k3, k4, f1, f2, o1, o2, n1]; done) | (simp only [Ob.holds, k0, k1, k2, k3, k4, f1, f2, o1, o2, n1]; rfl)), trivial⟩ ?_
    refine AG.rk 5 [5, 7, 9] [8, 17] 18 (todo' := [.code (sub (codeOf Try.f3) [1, 1, 1, 1, 1, 0, 1, 0, 0]), .inLoop (sub (codeOf Try.f3) [1, 1, 1, 1, 1, 0, 1, 0, 0]), .inBlock 0, .code (sub (codeOf Try.f3) [1, 1, 1, 1, 1, 1])]) (st' := ⟨mkT 77 [(5, .o 8 0 q), (7, .o 17 0 q), (9, .ex (.int .i64 (IntKind.wrap .i64 ((↑i : Int) + 1))))], [(8, .rowX 2 D), (17, .rowX 3 E)], 18⟩) (by kernel_rfl) (by kernel_rfl) ?_
    rewrite [v5]
    exact ih1
  · clear hc ih
    refine AG.rk 2 [] [] 0 (todo' := [.code (sub (codeOf Try.f3) [1, 1, 1, 1, 1, 1, 0]), .code (sub (codeOf Try.f3) [1, 0, 1, 0, 1])]) (st' := ⟨mkT 77 [], [], 0⟩) (by kernel_rfl) (by kernel_rfl) ?_
    refine AG.gk [] [(0, { val := .ex (.bool true) })] [4] [] 0 (st' := ⟨mkT 77 [(4, .ex (.bool true))], [], 0⟩) (obs := [Ob.call (fun g => List.lookup g []) 13 [] [] { val := .ex (.bool true) }]) (by kernel_rfl) (by kernel_rfl) ⟨((Go.Proofs.Ytngmlkkcjjfiaaa.Ab.awake_ok ).gl), trivial⟩ ?_
    refine AG.fin ([.ex (.bool true)]) Go.Proofs.Try.f3 fn3 (.inr ⟨_, rfl⟩) (obs := []) (by kernel_rfl) trivial (by kernel_rfl) trivial (by kernel_rfl)
theorem cparts_ok (alg n : Int) (hi : -9223372036854775808 ≤ n ∧ n ≤ 9223372036854775807) : CallOK Try.prog (fun _ => none) 3 [.ex (.int .i64 alg), .ex (.int .i64 n)] [] { val := .ex (.bool true) } := by
  by_cases hn : n > 3000 ∧ n ≤ 65536
  · have g1 : decide (n > 3000) = true := by simp; omega
    have g2 : decide (n ≤ 65536) = true := by simp; omega
    refine CallOK.from0 hmix Try.f3 0 fn3 (by kernel_rfl) (by kernel_rfl) (fun w ρ h1 h2 => ?_)
    refine AG.rk 4 [0, 1] [] 0 (todo' := [.code (sub (codeOf Try.f3) [1, 0, 0]), .code (sub (codeOf Try.f3) [1, 0, 1]), .code (sub (codeOf Try.f3) [1, 1])]) (st' := ⟨mkT 77 [(0, .ex (.int .i64 alg)), (1, .ex (.int .i64 n))], [], 0⟩) (by kernel_rfl) (by kernel_rfl) ?_
    refine AG.gk [] [(1, { val := .ex (.bool true) }), (4, { val := .ex (.bool true) })] [0, 1, 15] [] 0 (st' := ⟨mkT 77 [(0, .ex (.int .i64 alg)), (1, .ex (.int .i64 n)), (15, .ex (.bool true))], [], 0⟩) (obs := [Ob.eq (.ex (.bool (decide (n > 3000)))) (.ex (.bool true)), Ob.eq (.ex (.bool (decide (n ≤ 65536)))) (.ex (.bool true))]) (by kernel_rfl) (by kernel_rfl) ⟨(by simp only [Ob.holds, g1]), (by simp only [Ob.holds, g2]), trivial⟩ ?_
    refine AG.rk 3 [4] [] 0 (todo' := [.code (sub (codeOf Try.f3) [1, 0, 1, 0, 1]), .code (sub (codeOf Try.f3) [1, 1])]) (st' := ⟨mkT 77 [(4, .ex (.bool true))], [], 0⟩) (by kernel_rfl) (by kernel_rfl) ?_
    refine AG.fin ([.ex (.bool true)]) Go.Proofs.Try.f3 fn3 (.inr ⟨_, rfl⟩) (obs := []) (by kernel_rfl) trivial (by kernel_rfl) trivial (by kernel_rfl)
  by_cases hr : refC alg n = 0
  case neg =>
    have c1 := partsno_ok alg n hr
    have c2 := rpartsno_ok alg n hr
    have hw : IntKind.i64.wrap (refC alg n) = refC alg n := by
      have : refC alg n = 0 ∨ refC alg n = 6 ∨ refC alg n = 7 ∨ refC alg n = 8 := by
        unfold refC
        split
        · split
          · omega
          · split <;> omega
        · split
          · split
            · omega
            · split <;> omega
          · omega
      rcases this with h | h | h | h <;> rw [h] <;> decide
    generalize refC alg n = e at *
    have n1 : (e != e) = false := by simp
    by_cases hn1 : n > 3000
    · have g1 : decide (n > 3000) = true := by simp; omega
      have g2 : decide (n ≤ 65536) = false := by simp; omega
      refine CallOK.from0 hmix Try.f3 0 fn3 (by kernel_rfl) (by kernel_rfl) (fun w ρ h1 h2 => ?_)
      refine AG.rk 4 [0, 1] [] 0 (todo' := [.code (sub (codeOf Try.f3) [1, 0, 0]), .code (sub (codeOf Try.f3) [1, 0, 1]), .code (sub (codeOf Try.f3) [1, 1])]) (st' := ⟨mkT 77 [(0, .ex (.int .i64 alg)), (1, .ex (.int .i64 n))], [], 0⟩) (by kernel_rfl) (by kernel_rfl) ?_
      refine AG.gk [] [(1, { val := .ex (.bool true) }), (4, { val := .ex (.bool false) })] [0, 1, 15] [] 0 (st' := ⟨mkT 77 [(0, .ex (.int .i64 alg)), (1, .ex (.int .i64 n)), (15, .ex (.bool false))], [], 0⟩) (obs := [Ob.eq (.ex (.bool (decide (n > 3000)))) (.ex (.bool true)), Ob.eq (.ex (.bool (decide (n ≤ 65536)))) (.ex (.bool false))]) (by kernel_rfl) (by kernel_rfl) ⟨(by simp only [Ob.holds, g1]), (by simp only [Ob.holds, g2]), trivial⟩ ?_
      refine AG.rk 3 [0, 1] [] 0 (todo' := [.code (sub (codeOf Try.f3) [1, 1, 0]), .code (sub (codeOf Try.f3) [1, 1, 1])]) (st' := ⟨mkT 77 [(0, .ex (.int .i64 alg)), (1, .ex (.int .i64 n))], [], 0⟩) (by kernel_rfl) (by kernel_rfl) ?_
      refine AG.gk [] [(2, { val := .tup [.ex (.slice none 0 0), .ex (.int .i64 e)] })] [0, 1, 5, 6] [] 0 (st' := ⟨mkT 77 [(0, .ex (.int .i64 alg)), (1, .ex (.int .i64 n)), (5, .ex (.slice none 0 0)), (6, .ex (.int .i64 e))], [], 0⟩) (obs := [Ob.call (fun g => List.lookup g []) 11 [.ex (.int .i64 alg), .ex (.int .i64 n)] [] { val := .tup [.ex (.slice none 0 0), .ex (.int .i64 e)] }]) (by kernel_rfl) (by kernel_rfl) ⟨((c1 ).gl), trivial⟩ ?_
      refine AG.rk 1 [0, 1, 5, 6] [] 0 (todo' := [.code (sub (codeOf Try.f3) [1, 1, 1, 0]), .code (sub (codeOf Try.f3) [1, 1, 1, 1])]) (st' := ⟨mkT 77 [(0, .ex (.int .i64 alg)), (1, .ex (.int .i64 n)), (5, .ex (.slice none 0 0)), (6, .ex (.int .i64 e))], [], 0⟩) (by kernel_rfl) (by kernel_rfl) ?_
      refine AG.gk [] [(2, { val := .tup [.ex (.slice none 0 0), .ex (.int .i64 e)] })] [5, 6, 7, 8] [] 0 (st' := ⟨mkT 77 [(5, .ex (.slice none 0 0)), (6, .ex (.int .i64 e)), (7, .ex (.slice none 0 0)), (8, .ex (.int .i64 e))], [], 0⟩) (obs := [Ob.call (fun g => List.lookup g []) 12 [.ex (.int .i64 alg), .ex (.int .i64 n)] [] { val := .tup [.ex (.slice none 0 0), .ex (.int .i64 e)] }]) (by kernel_rfl) (by kernel_rfl) ⟨((c2 ).gl), trivial⟩ ?_
      refine AG.rk 2 [5, 6, 7, 8] [] 0 (todo' := [.code (sub (codeOf Try.f3) [1, 1, 1, 1, 0, 0]), .code (sub (codeOf Try.f3) [1, 1, 1, 1, 0, 1]), .code (sub (codeOf Try.f3) [1, 1, 1, 1, 1])]) (st' := ⟨mkT 77 [(5, .ex (.slice none 0 0)), (6, .ex (.int .i64 e)), (7, .ex (.slice none 0 0)), (8, .ex (.int .i64 e))], [], 0⟩) (by kernel_rfl) (by kernel_rfl) ?_
      refine AG.gk [] [(2, { val := .ex (.bool false) })] [5, 7, 37] [] 0 (st' := ⟨mkT 77 [(5, .ex (.slice none 0 0)), (7, .ex (.slice none 0 0)), (37, .ex (.bool false))], [], 0⟩) (obs := [Ob.eq (.ex (.bool (e != e))) (.ex (.bool false))]) (by kernel_rfl) (by kernel_rfl) ⟨(by simp only [Ob.holds, n1]), trivial⟩ ?_
      refine AG.rk 6 [5, 7, 9] [] 0 (todo' := [.code (sub (codeOf Try.f3) [1, 1, 1, 1, 1, 0, 1, 0]), .inBlock 0, .code (sub (codeOf Try.f3) [1, 1, 1, 1, 1, 1])]) (st' := ⟨mkT 77 [(5, .ex (.slice none 0 0)), (7, .ex (.slice none 0 0)), (9, .ex (.int .i64 0))], [], 0⟩) (by kernel_rfl) (by kernel_rfl) ?_
      refine AG.rk 7 [] [] 0 (todo' := [.code (sub (codeOf Try.f3) [1, 1, 1, 1, 1, 1, 0]), .code (sub (codeOf Try.f3) [1, 0, 1, 0, 1])]) (st' := ⟨mkT 77 [], [], 0⟩) (by kernel_rfl) (by kernel_rfl) ?_
      refine AG.gk [] [(0, { val := .ex (.bool true) })] [4] [] 0 (st' := ⟨mkT 77 [(4, .ex (.bool true))], [], 0⟩) (obs := [Ob.call (fun g => List.lookup g []) 13 [] [] { val := .ex (.bool true) }]) (by kernel_rfl) (by kernel_rfl) ⟨((Go.Proofs.Ytngmlkkcjjfiaaa.Ab.awake_ok ).gl), trivial⟩ ?_
      refine AG.fin ([.ex (.bool true)]) Go.Proofs.Try.f3 fn3 (.inr ⟨_, rfl⟩) (obs := []) (by kernel_rfl) trivial (by kernel_rfl) trivial (by kernel_rfl)
    · have g1 : decide (n > 3000) = false := by simp; omega
      refine CallOK.from0 hmix Try.f3 0 fn3 (by kernel_rfl) (by kernel_rfl) (fun w ρ h1 h2 => ?_)
      refine AG.rk 4 [0, 1] [] 0 (todo' := [.code (sub (codeOf Try.f3) [1, 0, 0]), .code (sub (codeOf Try.f3) [1, 0, 1]), .code (sub (codeOf Try.f3) [1, 1])]) (st' := ⟨mkT 77 [(0, .ex (.int .i64 alg)), (1, .ex (.int .i64 n))], [], 0⟩) (by kernel_rfl) (by kernel_rfl) ?_
      refine AG.gk [] [(1, { val := .ex (.bool false) })] [0, 1, 15] [] 0 (st' := ⟨mkT 77 [(0, .ex (.int .i64 alg)), (1, .ex (.int .i64 n)), (15, .ex (.bool false))], [], 0⟩) (obs := [Ob.eq (.ex (.bool (decide (n > 3000)))) (.ex (.bool false))]) (by kernel_rfl) (by kernel_rfl) ⟨(by simp only [Ob.holds, g1]), trivial⟩ ?_
      refine AG.rk 3 [0, 1] [] 0 (todo' := [.code (sub (codeOf Try.f3) [1, 1, 0]), .code (sub (codeOf Try.f3) [1, 1, 1])]) (st' := ⟨mkT 77 [(0, .ex (.int .i64 alg)), (1, .ex (.int .i64 n))], [], 0⟩) (by kernel_rfl) (by kernel_rfl) ?_
      refine AG.gk [] [(2, { val := .tup [.ex (.slice none 0 0), .ex (.int .i64 e)] })] [0, 1, 5, 6] [] 0 (st' := ⟨mkT 77 [(0, .ex (.int .i64 alg)), (1, .ex (.int .i64 n)), (5, .ex (.slice none 0 0)), (6, .ex (.int .i64 e))], [], 0⟩) (obs := [Ob.call (fun g => List.lookup g []) 11 [.ex (.int .i64 alg), .ex (.int .i64 n)] [] { val := .tup [.ex (.slice none 0 0), .ex (.int .i64 e)] }]) (by kernel_rfl) (by kernel_rfl) ⟨((c1 ).gl), trivial⟩ ?_
      refine AG.rk 1 [0, 1, 5, 6] [] 0 (todo' := [.code (sub (codeOf Try.f3) [1, 1, 1, 0]), .code (sub (codeOf Try.f3) [1, 1, 1, 1])]) (st' := ⟨mkT 77 [(0, .ex (.int .i64 alg)), (1, .ex (.int .i64 n)), (5, .ex (.slice none 0 0)), (6, .ex (.int .i64 e))], [], 0⟩) (by kernel_rfl) (by kernel_rfl) ?_
      refine AG.gk [] [(2, { val := .tup [.ex (.slice none 0 0), .ex (.int .i64 e)] })] [5, 6, 7, 8] [] 0 (st' := ⟨mkT 77 [(5, .ex (.slice none 0 0)), (6, .ex (.int .i64 e)), (7, .ex (.slice none 0 0)), (8, .ex (.int .i64 e))], [], 0⟩) (obs := [Ob.call (fun g => List.lookup g []) 12 [.ex (.int .i64 alg), .ex (.int .i64 n)] [] { val := .tup [.ex (.slice none 0 0), .ex (.int .i64 e)] }]) (by kernel_rfl) (by kernel_rfl) ⟨((c2 ).gl), trivial⟩ ?_
      refine AG.rk 2 [5, 6, 7, 8] [] 0 (todo' := [.code (sub (codeOf Try.f3) [1, 1, 1, 1, 0, 0]), .code (sub (codeOf Try.f3) [1, 1, 1, 1, 0, 1]), .code (sub (codeOf Try.f3) [1, 1, 1, 1, 1])]) (st' := ⟨mkT 77 [(5, .ex (.slice none 0 0)), (6, .ex (.int .i64 e)), (7, .ex (.slice none 0 0)), (8, .ex (.int .i64 e))], [], 0⟩) (by kernel_rfl) (by kernel_rfl) ?_
      refine AG.gk [] [(2, { val := .ex (.bool false) })] [5, 7, 37] [] 0 (st' := ⟨mkT 77 [(5, .ex (.slice none 0 0)), (7, .ex (.slice none 0 0)), (37, .ex (.bool false))], [], 0⟩) (obs := [Ob.eq (.ex (.bool (e != e))) (.ex (.bool false))]) (by kernel_rfl) (by kernel_rfl) ⟨(by simp only [Ob.holds, n1]), trivial⟩ ?_
      refine AG.rk 6 [5, 7, 9] [] 0 (todo' := [.code (sub (codeOf Try.f3) [1, 1, 1, 1, 1, 0, 1, 0]), .inBlock 0, .code (sub (codeOf Try.f3) [1, 1, 1, 1, 1, 1])]) (st' := ⟨mkT 77 [(5, .ex (.slice none 0 0)), (7, .ex (.slice none 0 0)), (9, .ex (.int .i64 0))], [], 0⟩) (by kernel_rfl) (by kernel_rfl) ?_
      refine AG.rk 7 [] [] 0 (todo' := [.code (sub (codeOf Try.f3) [1, 1, 1, 1, 1, 1, 0]), .code (sub (codeOf Try.f3) [1, 0, 1, 0, 1])]) (st' := ⟨mkT 77 [], [], 0⟩) (by kernel_rfl) (by kernel_rfl) ?_
      refine AG.gk [] [(0, { val := .ex (.bool true) })] [4] [] 0 (st' := ⟨mkT 77 [(4, .ex (.bool true))], [], 0⟩) (obs := [Ob.call (fun g => List.lookup g []) 13 [] [] { val := .ex (.bool true) }]) (by kernel_rfl) (by kernel_rfl) ⟨((Go.Proofs.Ytngmlkkcjjfiaaa.Ab.awake_ok ).gl), trivial⟩ ?_
      refine AG.fin ([.ex (.bool true)]) Go.Proofs.Try.f3 fn3 (.inr ⟨_, rfl⟩) (obs := []) (by kernel_rfl) trivial (by kernel_rfl) trivial (by kernel_rfl)
  have hA : alg = 1 ∨ alg = 2 ∨ alg = 3 := by
    unfold refC at hr
    by_cases a1 : alg = 1 ∨ alg = 2
    · omega
    · rw [if_neg a1] at hr
      by_cases a3 : alg = 3
      · omega
      · rw [if_neg a3] at hr; omega
  have hN : 1 ≤ n ∧ (alg ≠ 3 → 16 ≤ n) ∧ n ≤ 65536 := by
    unfold refC at hr
    by_cases a1 : alg = 1 ∨ alg = 2
    · rw [if_pos a1] at hr
      by_cases h16 : n < 16
      · rw [if_pos h16] at hr; omega
      · rw [if_neg h16] at hr
        by_cases h6 : n > 65536
        · rw [if_pos h6] at hr; omega
        · omega
    · rw [if_neg a1] at hr
      by_cases a3 : alg = 3
      · rw [if_pos a3] at hr
        by_cases h16 : n < 1
        · rw [if_pos h16] at hr; omega
        · rw [if_neg h16] at hr
          by_cases h6 : n > 65536
          · rw [if_pos h6] at hr; omega
          · omega
      · omega
  clear hr
  obtain ⟨A, rfl⟩ := Int.eq_ofNat_of_zero_le (show 0 ≤ alg by omega)
  obtain ⟨N, rfl⟩ := Int.eq_ofNat_of_zero_le (show 0 ≤ n by omega)
  have c1 := parts_ok A N (by omega) (by omega) (by omega) (by omega)
  have hA' : A = 1 ∨ A = 2 ∨ A = 3 := by omega
  rcases hA' with h | h | h
  · subst h
    have hL : partL 1 N = [(1, 0, N - 16), (2, N - 16, 16)] := if_pos rfl
    have c2 := rparts1_ok N (by omega) (by omega)
    exact cparts2_ok 1 N (partL 1 N) _ _ hL (by omega) (by simp; omega) (by simp; omega) (by rw [hL] at c1 ⊢; exact c1) c2
  · subst h
    have hL : partL 2 N = [(3, 0, 16), (1, 16, N - 16)] := by unfold partL; rw [if_neg (by decide), if_pos rfl]; rfl
    have c2 := rparts2_ok N (by omega) (by omega)
    exact cparts2_ok 2 N (partL 2 N) _ _ hL (by omega) (by simp) (by simp; omega) (by rw [hL] at c1 ⊢; exact c1) c2
  · subst h
    by_cases h32 : N < 32
    · have hL : partL 3 N = [(10, 0, N), (11, N, N)] := by unfold partL; rw [if_neg (by decide), if_neg (by decide), if_pos h32]; rfl
      have c2 := rparts3_ok N (by omega) h32
      exact cparts2_ok 3 N (partL 3 N) _ _ hL (by omega) (by simp; omega) (by simp; omega) (by rw [hL] at c1 ⊢; exact c1) c2
    · exact cpartsA_ok N (by omega) (by omega)
end Go.Proofs.Ytngmlkkcjjfiaaa.Ab
