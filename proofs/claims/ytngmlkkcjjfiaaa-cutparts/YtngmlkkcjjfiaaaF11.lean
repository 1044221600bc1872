/- Own: the reference's parts, and the law CutParts followed (no statement is proved here). -/
import Derived.Test.YtngmlkkcjjfiaaaF10
import Derived.KernelRfl
namespace Go.Proofs.Ytngmlkkcjjfiaaa.Ab
open Go.Proofs
set_option linter.unusedSimpArgs false
set_option linter.unusedVariables false
set_option maxRecDepth 4000
theorem fn12 : Try.prog.funcs[12]? = some Try.f12 := by kernel_rfl
def r1 (p : Nat × Nat × Nat) : List Value := [.int .i64 (p.1 : Int), .int .i64 (p.2.1 : Int), .int .i64 (p.2.2 : Int)]
def rc : List (Nat × Nat × Nat) → List Value
  | [] => []
  | p :: l => r1 p ++ rc l
theorem rc_app (l m : List (Nat × Nat × Nat)) : rc (l ++ m) = rc l ++ rc m := by
  induction l with
  | nil => rfl
  | cons p l ih => show r1 p ++ rc (l ++ m) = (r1 p ++ rc l) ++ rc m; rw [ih, List.append_assoc]
theorem rc_len (l : List (Nat × Nat × Nat)) : (rc l).length = 3 * l.length := by
  induction l with
  | nil => rfl
  | cons p l ih => show (r1 p ++ rc l).length = _; rw [List.length_append, ih, List.length_cons]; show 3 + _ = _; omega
theorem rc_get (l : List (Nat × Nat × Nat)) (i : Nat) (p : Nat × Nat × Nat) (h : l[i]? = some p) : (rc l)[3 * i]? = some (.int .i64 (p.1 : Int)) ∧ (rc l)[3 * i + 1]? = some (.int .i64 (p.2.1 : Int)) ∧ (rc l)[3 * i + 2]? = some (.int .i64 (p.2.2 : Int)) := by
  induction l generalizing i with
  | nil => simp at h
  | cons q l ih =>
    cases i with
    | zero => simp at h; subst h; exact ⟨rfl, rfl, rfl⟩
    | succ i =>
      simp at h
      have := ih i h
      show (r1 q ++ rc l)[3 * (i + 1)]? = _ ∧ (r1 q ++ rc l)[3 * (i + 1) + 1]? = _ ∧ (r1 q ++ rc l)[3 * (i + 1) + 2]? = _
      rw [List.getElem?_append_right (by show 3 ≤ _; omega), List.getElem?_append_right (by show 3 ≤ _; omega), List.getElem?_append_right (by show 3 ≤ _; omega)]
      show (rc l)[3 * (i + 1) - 3]? = _ ∧ (rc l)[3 * (i + 1) + 1 - 3]? = _ ∧ (rc l)[3 * (i + 1) + 2 - 3]? = _
      rw [show 3 * (i + 1) - 3 = 3 * i by omega, show 3 * (i + 1) + 1 - 3 = 3 * i + 1 by omega, show 3 * (i + 1) + 2 - 3 = 3 * i + 2 by omega]
      exact this
theorem rpartsno_ok (alg n : Int) (h : refC alg n ≠ 0) : CallOK Try.prog (fun _ => none) 12 [.ex (.int .i64 alg), .ex (.int .i64 n)] [] { val := .tup [.ex (.slice none 0 0), .ex (.int .i64 (refC alg n))] } := by
  have hcase : (alg < 1 ∨ alg > 3) ∧ refC alg n = 8 ∨ (1 ≤ alg ∧ alg ≤ 3) ∧ (n < 1 ∨ alg ≠ 3 ∧ n < 16) ∧ refC alg n = 7 ∨ (1 ≤ alg ∧ alg ≤ 3) ∧ ¬ (n < 1 ∨ alg ≠ 3 ∧ n < 16) ∧ n > 65536 ∧ refC alg n = 6 := by
    unfold refC at h ⊢
    by_cases a1 : alg = 1 ∨ alg = 2
    · rw [if_pos a1] at h ⊢
      by_cases h16 : n < 16
      · rw [if_pos h16]; omega
      · rw [if_neg h16] at h ⊢
        by_cases h6 : n > 65536
        · rw [if_pos h6]; omega
        · rw [if_neg h6] at h; exact absurd rfl h
    · rw [if_neg a1] at h ⊢
      by_cases a3 : alg = 3
      · rw [if_pos a3] at h ⊢
        by_cases h16 : n < 1
        · rw [if_pos h16]; omega
        · rw [if_neg h16] at h ⊢
          by_cases h6 : n > 65536
          · rw [if_pos h6]; omega
          · rw [if_neg h6] at h; exact absurd rfl h
      · rw [if_neg a3]; omega
  rcases hcase with ⟨h1, h2⟩ | ⟨h1, h2, h3⟩ | ⟨h1, h2, h3, h4⟩
  · rw [h2]
    by_cases k1 : alg < 1
    · have q1 : decide (alg < 1) = true := by simp; omega
      refine CallOK.from0 hmix Try.f12 0 fn12 (by kernel_rfl) (by kernel_rfl) (fun w ρ h1 h2 => ?_)
      refine AG.rk 4 [0, 1] [] 0 (todo' := [.code (sub (codeOf Try.f12) [1, 0, 0]), .code (sub (codeOf Try.f12) [1, 0, 1]), .code (sub (codeOf Try.f12) [1, 1])]) (st' := ⟨mkT 110 [(0, .ex (.int .i64 alg)), (1, .ex (.int .i64 n))], [], 0⟩) (by kernel_rfl) (by kernel_rfl) ?_
      refine AG.gk [] [(1, { val := .ex (.bool true) })] [0, 1, 16] [] 0 (st' := ⟨mkT 110 [(0, .ex (.int .i64 alg)), (1, .ex (.int .i64 n)), (16, .ex (.bool true))], [], 0⟩) (obs := [Ob.eq (.ex (.bool (decide (alg < 1)))) (.ex (.bool true))]) (by kernel_rfl) (by kernel_rfl) ⟨(by simp only [Ob.holds, q1]), trivial⟩ ?_
      refine AG.rk 3 [4, 5] [] 0 (todo' := [.code (sub (codeOf Try.f12) [1, 0, 1, 0, 1]), .code (sub (codeOf Try.f12) [1, 1])]) (st' := ⟨mkT 110 [(4, .ex (.slice none 0 0)), (5, .ex (.int .i64 8))], [], 0⟩) (by kernel_rfl) (by kernel_rfl) ?_
      refine AG.fin ([.ex (.slice none 0 0), .ex (.int .i64 8)]) Go.Proofs.Try.f12 fn12 (.inr ⟨_, rfl⟩) (obs := []) (by kernel_rfl) trivial (by kernel_rfl) trivial (by kernel_rfl)
    · have q1 : decide (alg < 1) = false := by simp; omega
      have q2 : decide (alg > 3) = true := by simp; omega
      refine CallOK.from0 hmix Try.f12 0 fn12 (by kernel_rfl) (by kernel_rfl) (fun w ρ h1 h2 => ?_)
      refine AG.rk 4 [0, 1] [] 0 (todo' := [.code (sub (codeOf Try.f12) [1, 0, 0]), .code (sub (codeOf Try.f12) [1, 0, 1]), .code (sub (codeOf Try.f12) [1, 1])]) (st' := ⟨mkT 110 [(0, .ex (.int .i64 alg)), (1, .ex (.int .i64 n))], [], 0⟩) (by kernel_rfl) (by kernel_rfl) ?_
      refine AG.gk [] [(1, { val := .ex (.bool false) }), (4, { val := .ex (.bool true) })] [0, 1, 16] [] 0 (st' := ⟨mkT 110 [(0, .ex (.int .i64 alg)), (1, .ex (.int .i64 n)), (16, .ex (.bool true))], [], 0⟩) (obs := [Ob.eq (.ex (.bool (decide (alg < 1)))) (.ex (.bool false)), Ob.eq (.ex (.bool (decide (alg > 3)))) (.ex (.bool true))]) (by kernel_rfl) (by kernel_rfl) ⟨(by simp only [Ob.holds, q1]), (by simp only [Ob.holds, q2]), trivial⟩ ?_
      refine AG.rk 3 [4, 5] [] 0 (todo' := [.code (sub (codeOf Try.f12) [1, 0, 1, 0, 1]), .code (sub (codeOf Try.f12) [1, 1])]) (st' := ⟨mkT 110 [(4, .ex (.slice none 0 0)), (5, .ex (.int .i64 8))], [], 0⟩) (by kernel_rfl) (by kernel_rfl) ?_
      refine AG.fin ([.ex (.slice none 0 0), .ex (.int .i64 8)]) Go.Proofs.Try.f12 fn12 (.inr ⟨_, rfl⟩) (obs := []) (by kernel_rfl) trivial (by kernel_rfl) trivial (by kernel_rfl)
  · rw [h3]
    have q1 : decide (alg < 1) = false := by simp; omega
    have q2 : decide (alg > 3) = false := by simp; omega
    by_cases k1 : n < 1
    · have q3 : decide (n < 1) = true := by simp; omega
      refine CallOK.from0 hmix Try.f12 0 fn12 (by kernel_rfl) (by kernel_rfl) (fun w ρ h1 h2 => ?_)
      refine AG.rk 4 [0, 1] [] 0 (todo' := [.code (sub (codeOf Try.f12) [1, 0, 0]), .code (sub (codeOf Try.f12) [1, 0, 1]), .code (sub (codeOf Try.f12) [1, 1])]) (st' := ⟨mkT 110 [(0, .ex (.int .i64 alg)), (1, .ex (.int .i64 n))], [], 0⟩) (by kernel_rfl) (by kernel_rfl) ?_
      refine AG.gk [] [(1, { val := .ex (.bool false) }), (4, { val := .ex (.bool false) })] [0, 1, 16] [] 0 (st' := ⟨mkT 110 [(0, .ex (.int .i64 alg)), (1, .ex (.int .i64 n)), (16, .ex (.bool false))], [], 0⟩) (obs := [Ob.eq (.ex (.bool (decide (alg < 1)))) (.ex (.bool false)), Ob.eq (.ex (.bool (decide (alg > 3)))) (.ex (.bool false))]) (by kernel_rfl) (by kernel_rfl) ⟨(by simp only [Ob.holds, q1]), (by simp only [Ob.holds, q2]), trivial⟩ ?_
      refine AG.rk 4 [0, 1] [] 0 (todo' := [.code (sub (codeOf Try.f12) [1, 1, 0, 0]), .code (sub (codeOf Try.f12) [1, 1, 0, 1]), .code (sub (codeOf Try.f12) [1, 1, 1])]) (st' := ⟨mkT 110 [(0, .ex (.int .i64 alg)), (1, .ex (.int .i64 n))], [], 0⟩) (by kernel_rfl) (by kernel_rfl) ?_
      refine AG.gk [] [(1, { val := .ex (.bool true) })] [0, 1, 26] [] 0 (st' := ⟨mkT 110 [(0, .ex (.int .i64 alg)), (1, .ex (.int .i64 n)), (26, .ex (.bool true))], [], 0⟩) (obs := [Ob.eq (.ex (.bool (decide (n < 1)))) (.ex (.bool true))]) (by kernel_rfl) (by kernel_rfl) ⟨(by simp only [Ob.holds, q3]), trivial⟩ ?_
      refine AG.rk 3 [4, 5] [] 0 (todo' := [.code (sub (codeOf Try.f12) [1, 0, 1, 0, 1]), .code (sub (codeOf Try.f12) [1, 1, 1])]) (st' := ⟨mkT 110 [(4, .ex (.slice none 0 0)), (5, .ex (.int .i64 7))], [], 0⟩) (by kernel_rfl) (by kernel_rfl) ?_
      refine AG.fin ([.ex (.slice none 0 0), .ex (.int .i64 7)]) Go.Proofs.Try.f12 fn12 (.inr ⟨_, rfl⟩) (obs := []) (by kernel_rfl) trivial (by kernel_rfl) trivial (by kernel_rfl)
    · have q3 : decide (n < 1) = false := by simp; omega
      have q4 : (alg != 3) = true := by simp; omega
      have q5 : decide (n < 16) = true := by simp; omega
      refine CallOK.from0 hmix Try.f12 0 fn12 (by kernel_rfl) (by kernel_rfl) (fun w ρ h1 h2 => ?_)
      refine AG.rk 4 [0, 1] [] 0 (todo' := [.code (sub (codeOf Try.f12) [1, 0, 0]), .code (sub (codeOf Try.f12) [1, 0, 1]), .code (sub (codeOf Try.f12) [1, 1])]) (st' := ⟨mkT 110 [(0, .ex (.int .i64 alg)), (1, .ex (.int .i64 n))], [], 0⟩) (by kernel_rfl) (by kernel_rfl) ?_
      refine AG.gk [] [(1, { val := .ex (.bool false) }), (4, { val := .ex (.bool false) })] [0, 1, 16] [] 0 (st' := ⟨mkT 110 [(0, .ex (.int .i64 alg)), (1, .ex (.int .i64 n)), (16, .ex (.bool false))], [], 0⟩) (obs := [Ob.eq (.ex (.bool (decide (alg < 1)))) (.ex (.bool false)), Ob.eq (.ex (.bool (decide (alg > 3)))) (.ex (.bool false))]) (by kernel_rfl) (by kernel_rfl) ⟨(by simp only [Ob.holds, q1]), (by simp only [Ob.holds, q2]), trivial⟩ ?_
      refine AG.rk 4 [0, 1] [] 0 (todo' := [.code (sub (codeOf Try.f12) [1, 1, 0, 0]), .code (sub (codeOf Try.f12) [1, 1, 0, 1]), .code (sub (codeOf Try.f12) [1, 1, 1])]) (st' := ⟨mkT 110 [(0, .ex (.int .i64 alg)), (1, .ex (.int .i64 n))], [], 0⟩) (by kernel_rfl) (by kernel_rfl) ?_
      refine AG.gk [] [(1, { val := .ex (.bool false) }), (4, { val := .ex (.bool true) }), (7, { val := .ex (.bool true) })] [0, 1, 26] [] 0 (st' := ⟨mkT 110 [(0, .ex (.int .i64 alg)), (1, .ex (.int .i64 n)), (26, .ex (.bool true))], [], 0⟩) (obs := [Ob.eq (.ex (.bool (decide (n < 1)))) (.ex (.bool false)), Ob.eq (.ex (.bool (alg != 3))) (.ex (.bool true)), Ob.eq (.ex (.bool (decide (n < 16)))) (.ex (.bool true))]) (by kernel_rfl) (by kernel_rfl) ⟨(by simp only [Ob.holds, q3]), (by simp only [Ob.holds, q4]), (by simp only [Ob.holds, q5]), trivial⟩ ?_
      refine AG.rk 3 [4, 5] [] 0 (todo' := [.code (sub (codeOf Try.f12) [1, 0, 1, 0, 1]), .code (sub (codeOf Try.f12) [1, 1, 1])]) (st' := ⟨mkT 110 [(4, .ex (.slice none 0 0)), (5, .ex (.int .i64 7))], [], 0⟩) (by kernel_rfl) (by kernel_rfl) ?_
      refine AG.fin ([.ex (.slice none 0 0), .ex (.int .i64 7)]) Go.Proofs.Try.f12 fn12 (.inr ⟨_, rfl⟩) (obs := []) (by kernel_rfl) trivial (by kernel_rfl) trivial (by kernel_rfl)
  · rw [h4]
    have q1 : decide (alg < 1) = false := by simp; omega
    have q2 : decide (alg > 3) = false := by simp; omega
    have q3 : decide (n < 1) = false := by simp; omega
    have q6 : decide (n > 65536) = true := by simp; omega
    by_cases k1 : alg = 3
    · have q4 : (alg != 3) = false := by simp; omega
      refine CallOK.from0 hmix Try.f12 0 fn12 (by kernel_rfl) (by kernel_rfl) (fun w ρ h1 h2 => ?_)
      refine AG.rk 4 [0, 1] [] 0 (todo' := [.code (sub (codeOf Try.f12) [1, 0, 0]), .code (sub (codeOf Try.f12) [1, 0, 1]), .code (sub (codeOf Try.f12) [1, 1])]) (st' := ⟨mkT 110 [(0, .ex (.int .i64 alg)), (1, .ex (.int .i64 n))], [], 0⟩) (by kernel_rfl) (by kernel_rfl) ?_
      refine AG.gk [] [(1, { val := .ex (.bool false) }), (4, { val := .ex (.bool false) })] [0, 1, 16] [] 0 (st' := ⟨mkT 110 [(0, .ex (.int .i64 alg)), (1, .ex (.int .i64 n)), (16, .ex (.bool false))], [], 0⟩) (obs := [Ob.eq (.ex (.bool (decide (alg < 1)))) (.ex (.bool false)), Ob.eq (.ex (.bool (decide (alg > 3)))) (.ex (.bool false))]) (by kernel_rfl) (by kernel_rfl) ⟨(by simp only [Ob.holds, q1]), (by simp only [Ob.holds, q2]), trivial⟩ ?_
      refine AG.rk 4 [0, 1] [] 0 (todo' := [.code (sub (codeOf Try.f12) [1, 1, 0, 0]), .code (sub (codeOf Try.f12) [1, 1, 0, 1]), .code (sub (codeOf Try.f12) [1, 1, 1])]) (st' := ⟨mkT 110 [(0, .ex (.int .i64 alg)), (1, .ex (.int .i64 n))], [], 0⟩) (by kernel_rfl) (by kernel_rfl) ?_
      refine AG.gk [] [(1, { val := .ex (.bool false) }), (4, { val := .ex (.bool false) })] [0, 1, 26] [] 0 (st' := ⟨mkT 110 [(0, .ex (.int .i64 alg)), (1, .ex (.int .i64 n)), (26, .ex (.bool false))], [], 0⟩) (obs := [Ob.eq (.ex (.bool (decide (n < 1)))) (.ex (.bool false)), Ob.eq (.ex (.bool (alg != 3))) (.ex (.bool false))]) (by kernel_rfl) (by kernel_rfl) ⟨(by simp only [Ob.holds, q3]), (by simp only [Ob.holds, q4]), trivial⟩ ?_
      refine AG.rk 4 [0, 1] [] 0 (todo' := [.code (sub (codeOf Try.f12) [1, 1, 1, 0, 0]), .code (sub (codeOf Try.f12) [1, 1, 1, 0, 1]), .code (sub (codeOf Try.f12) [1, 1, 1, 1])]) (st' := ⟨mkT 110 [(0, .ex (.int .i64 alg)), (1, .ex (.int .i64 n))], [], 0⟩) (by kernel_rfl) (by kernel_rfl) ?_
      refine AG.gk [] [(1, { val := .ex (.bool true) })] [0, 1, 28] [] 0 (st' := ⟨mkT 110 [(0, .ex (.int .i64 alg)), (1, .ex (.int .i64 n)), (28, .ex (.bool true))], [], 0⟩) (obs := [Ob.eq (.ex (.bool (decide (n > 65536)))) (.ex (.bool true))]) (by kernel_rfl) (by kernel_rfl) ⟨(by simp only [Ob.holds, q6]), trivial⟩ ?_
      refine AG.rk 3 [4, 5] [] 0 (todo' := [.code (sub (codeOf Try.f12) [1, 0, 1, 0, 1]), .code (sub (codeOf Try.f12) [1, 1, 1, 1])]) (st' := ⟨mkT 110 [(4, .ex (.slice none 0 0)), (5, .ex (.int .i64 6))], [], 0⟩) (by kernel_rfl) (by kernel_rfl) ?_
      refine AG.fin ([.ex (.slice none 0 0), .ex (.int .i64 6)]) Go.Proofs.Try.f12 fn12 (.inr ⟨_, rfl⟩) (obs := []) (by kernel_rfl) trivial (by kernel_rfl) trivial (by kernel_rfl)
    · have q4 : (alg != 3) = true := by simp; omega
      have q5 : decide (n < 16) = false := by simp; omega
      refine CallOK.from0 hmix Try.f12 0 fn12 (by kernel_rfl) (by kernel_rfl) (fun w ρ h1 h2 => ?_)
      refine AG.rk 4 [0, 1] [] 0 (todo' := [.code (sub (codeOf Try.f12) [1, 0, 0]), .code (sub (codeOf Try.f12) [1, 0, 1]), .code (sub (codeOf Try.f12) [1, 1])]) (st' := ⟨mkT 110 [(0, .ex (.int .i64 alg)), (1, .ex (.int .i64 n))], [], 0⟩) (by kernel_rfl) (by kernel_rfl) ?_
      refine AG.gk [] [(1, { val := .ex (.bool false) }), (4, { val := .ex (.bool false) })] [0, 1, 16] [] 0 (st' := ⟨mkT 110 [(0, .ex (.int .i64 alg)), (1, .ex (.int .i64 n)), (16, .ex (.bool false))], [], 0⟩) (obs := [Ob.eq (.ex (.bool (decide (alg < 1)))) (.ex (.bool false)), Ob.eq (.ex (.bool (decide (alg > 3)))) (.ex (.bool false))]) (by kernel_rfl) (by kernel_rfl) ⟨(by simp only [Ob.holds, q1]), (by simp only [Ob.holds, q2]), trivial⟩ ?_
      refine AG.rk 4 [0, 1] [] 0 (todo' := [.code (sub (codeOf Try.f12) [1, 1, 0, 0]), .code (sub (codeOf Try.f12) [1, 1, 0, 1]), .code (sub (codeOf Try.f12) [1, 1, 1])]) (st' := ⟨mkT 110 [(0, .ex (.int .i64 alg)), (1, .ex (.int .i64 n))], [], 0⟩) (by kernel_rfl) (by kernel_rfl) ?_
      refine AG.gk [] [(1, { val := .ex (.bool false) }), (4, { val := .ex (.bool true) }), (7, { val := .ex (.bool false) })] [0, 1, 26] [] 0 (st' := ⟨mkT 110 [(0, .ex (.int .i64 alg)), (1, .ex (.int .i64 n)), (26, .ex (.bool false))], [], 0⟩) (obs := [Ob.eq (.ex (.bool (decide (n < 1)))) (.ex (.bool false)), Ob.eq (.ex (.bool (alg != 3))) (.ex (.bool true)), Ob.eq (.ex (.bool (decide (n < 16)))) (.ex (.bool false))]) (by kernel_rfl) (by kernel_rfl) ⟨(by simp only [Ob.holds, q3]), (by simp only [Ob.holds, q4]), (by simp only [Ob.holds, q5]), trivial⟩ ?_
      refine AG.rk 4 [0, 1] [] 0 (todo' := [.code (sub (codeOf Try.f12) [1, 1, 1, 0, 0]), .code (sub (codeOf Try.f12) [1, 1, 1, 0, 1]), .code (sub (codeOf Try.f12) [1, 1, 1, 1])]) (st' := ⟨mkT 110 [(0, .ex (.int .i64 alg)), (1, .ex (.int .i64 n))], [], 0⟩) (by kernel_rfl) (by kernel_rfl) ?_
      refine AG.gk [] [(1, { val := .ex (.bool true) })] [0, 1, 28] [] 0 (st' := ⟨mkT 110 [(0, .ex (.int .i64 alg)), (1, .ex (.int .i64 n)), (28, .ex (.bool true))], [], 0⟩) (obs := [Ob.eq (.ex (.bool (decide (n > 65536)))) (.ex (.bool true))]) (by kernel_rfl) (by kernel_rfl) ⟨(by simp only [Ob.holds, q6]), trivial⟩ ?_
      refine AG.rk 3 [4, 5] [] 0 (todo' := [.code (sub (codeOf Try.f12) [1, 0, 1, 0, 1]), .code (sub (codeOf Try.f12) [1, 1, 1, 1])]) (st' := ⟨mkT 110 [(4, .ex (.slice none 0 0)), (5, .ex (.int .i64 6))], [], 0⟩) (by kernel_rfl) (by kernel_rfl) ?_
      refine AG.fin ([.ex (.slice none 0 0), .ex (.int .i64 6)]) Go.Proofs.Try.f12 fn12 (.inr ⟨_, rfl⟩) (obs := []) (by kernel_rfl) trivial (by kernel_rfl) trivial (by kernel_rfl)
theorem rparts1_ok (n : Nat) (h : 16 ≤ n) (h' : n ≤ 65536) : CallOK Try.prog (fun _ => none) 12 [.ex (.int .i64 1), .ex (.int .i64 (n : Int))] [] { val := .tup [.s 0 0 2 2, .ex (.int .i64 0)], upd := [(0, .own (rc (partL 1 n)))], nks := [0] } := by
  have hL : partL 1 n = [(1, 0, n - 16)] ++ [(2, n - 16, 16)] := if_pos rfl
  have e1 : IntKind.i64.wrap ((n : Int) - 16) = ((n - 16 : Nat) : Int) := by rw [wrap64_id _ (by omega) (by omega)]; omega
  have q3 : decide ((n : Int) < 1) = false := by simp; omega
  have q5 : decide ((n : Int) < 16) = false := by simp; omega
  have q6 : decide ((n : Int) > 65536) = false := by simp; omega
  rw [hL]
  refine CallOK.from0 hmix Try.f12 0 fn12 (by kernel_rfl) (by kernel_rfl) (fun w ρ h1 h2 => ?_)
  refine AG.rk 9 [0, 1] [] 0 (todo' := [.code (sub (codeOf Try.f12) [1, 1, 0, 0]), .code (sub (codeOf Try.f12) [1, 1, 0, 1]), .code (sub (codeOf Try.f12) [1, 1, 1])]) (st' := ⟨mkT 110 [(0, .ex (.int .i64 1)), (1, .ex (.int .i64 (↑n : Int)))], [], 0⟩) (by kernel_rfl) (by kernel_rfl) ?_
  refine AG.gk [] [(1, { val := .ex (.bool false) }), (7, { val := .ex (.bool false) })] [0, 1, 26] [] 0 (st' := ⟨mkT 110 [(0, .ex (.int .i64 1)), (1, .ex (.int .i64 (↑n : Int))), (26, .ex (.bool false))], [], 0⟩) (obs := [Ob.eq (.ex (.bool (decide ((↑n : Int) < 1)))) (.ex (.bool false)), Ob.eq (.ex (.bool (decide ((↑n : Int) < 16)))) (.ex (.bool false))]) (by kernel_rfl) (by kernel_rfl) ⟨(by simp only [Ob.holds, q3]), (by simp only [Ob.holds, q5]), trivial⟩ ?_
  refine AG.rk 4 [0, 1] [] 0 (todo' := [.code (sub (codeOf Try.f12) [1, 1, 1, 0, 0]), .code (sub (codeOf Try.f12) [1, 1, 1, 0, 1]), .code (sub (codeOf Try.f12) [1, 1, 1, 1])]) (st' := ⟨mkT 110 [(0, .ex (.int .i64 1)), (1, .ex (.int .i64 (↑n : Int)))], [], 0⟩) (by kernel_rfl) (by kernel_rfl) ?_
  refine AG.gk [] [(1, { val := .ex (.bool false) })] [0, 1, 28] [] 0 (st' := ⟨mkT 110 [(0, .ex (.int .i64 1)), (1, .ex (.int .i64 (↑n : Int))), (28, .ex (.bool false))], [], 0⟩) (obs := [Ob.eq (.ex (.bool (decide ((↑n : Int) > 65536)))) (.ex (.bool false))]) (by kernel_rfl) (by kernel_rfl) ⟨(by simp only [Ob.holds, q6]), trivial⟩ ?_
  refine AG.rk 7 [1] [] 0 (todo' := [.code (sub (codeOf Try.f12) [1, 1, 1, 1, 0, 1, 0, 0]), .code (sub (codeOf Try.f12) [1, 0, 1, 0, 1]), .code (sub (codeOf Try.f12) [1, 1, 1, 1, 1])]) (st' := ⟨mkT 110 [(1, .ex (.int .i64 (↑n : Int)))], [], 0⟩) (by kernel_rfl) (by kernel_rfl) ?_
  refine AG.gk [] [(1, { val := .ex (.int .i64 (↑(n - 16) : Int)) }), (4, { val := .ex (.int .i64 (↑(n - 16) : Int)) })] [4, 5] [24] 25 (st' := ⟨mkT 110 [(4, .s 24 0 2 2), (5, .ex (.int .i64 0))], [(24, .own [Value.int .i64 1, Value.int .i64 0, Value.int .i64 (↑(n - 16) : Int), Value.int .i64 2, Value.int .i64 (↑(n - 16) : Int), Value.int .i64 16])], 25⟩) (obs := [Ob.eq (.ex (.int .i64 (IntKind.wrap .i64 ((↑n : Int) - 16)))) (.ex (.int .i64 (↑(n - 16) : Int))), Ob.eq (.ex (.int .i64 (IntKind.wrap .i64 ((↑n : Int) - 16)))) (.ex (.int .i64 (↑(n - 16) : Int)))]) (by kernel_rfl) (by kernel_rfl) ⟨(by simp only [Ob.holds, e1]), (by simp only [Ob.holds, e1]), trivial⟩ ?_
  refine AG.ren 24 0 (st' := ⟨mkT 110 [(4, .s 0 0 2 2), (5, .ex (.int .i64 0))], [(0, .own [Value.int .i64 1, Value.int .i64 0, Value.int .i64 (↑(n - 16) : Int), Value.int .i64 2, Value.int .i64 (↑(n - 16) : Int), Value.int .i64 16])], 25⟩) (by kernel_rfl) (by kernel_rfl) ?_
  refine AG.fin ([.s 0 0 2 2, .ex (.int .i64 0)]) Go.Proofs.Try.f12 fn12 (.inr ⟨_, rfl⟩) (obs := []) (by kernel_rfl) trivial (by kernel_rfl) ⟨(by kernel_rfl), trivial⟩ (by kernel_rfl)
theorem rparts2_ok (n : Nat) (h : 16 ≤ n) (h' : n ≤ 65536) : CallOK Try.prog (fun _ => none) 12 [.ex (.int .i64 2), .ex (.int .i64 (n : Int))] [] { val := .tup [.s 0 0 2 2, .ex (.int .i64 0)], upd := [(0, .own (rc (partL 2 n)))], nks := [0] } := by
  have hL : partL 2 n = [(3, 0, 16)] ++ [(1, 16, n - 16)] := by unfold partL; rw [if_neg (by decide), if_pos rfl]
  have e1 : IntKind.i64.wrap ((n : Int) - 16) = ((n - 16 : Nat) : Int) := by rw [wrap64_id _ (by omega) (by omega)]; omega
  have q3 : decide ((n : Int) < 1) = false := by simp; omega
  have q5 : decide ((n : Int) < 16) = false := by simp; omega
  have q6 : decide ((n : Int) > 65536) = false := by simp; omega
  rw [hL]
  refine CallOK.from0 hmix Try.f12 0 fn12 (by kernel_rfl) (by kernel_rfl) (fun w ρ h1 h2 => ?_)
  refine AG.rk 9 [0, 1] [] 0 (todo' := [.code (sub (codeOf Try.f12) [1, 1, 0, 0]), .code (sub (codeOf Try.f12) [1, 1, 0, 1]), .code (sub (codeOf Try.f12) [1, 1, 1])]) (st' := ⟨mkT 110 [(0, .ex (.int .i64 2)), (1, .ex (.int .i64 (↑n : Int)))], [], 0⟩) (by kernel_rfl) (by kernel_rfl) ?_
  refine AG.gk [] [(1, { val := .ex (.bool false) }), (7, { val := .ex (.bool false) })] [0, 1, 26] [] 0 (st' := ⟨mkT 110 [(0, .ex (.int .i64 2)), (1, .ex (.int .i64 (↑n : Int))), (26, .ex (.bool false))], [], 0⟩) (obs := [Ob.eq (.ex (.bool (decide ((↑n : Int) < 1)))) (.ex (.bool false)), Ob.eq (.ex (.bool (decide ((↑n : Int) < 16)))) (.ex (.bool false))]) (by kernel_rfl) (by kernel_rfl) ⟨(by simp only [Ob.holds, q3]), (by simp only [Ob.holds, q5]), trivial⟩ ?_
  refine AG.rk 4 [0, 1] [] 0 (todo' := [.code (sub (codeOf Try.f12) [1, 1, 1, 0, 0]), .code (sub (codeOf Try.f12) [1, 1, 1, 0, 1]), .code (sub (codeOf Try.f12) [1, 1, 1, 1])]) (st' := ⟨mkT 110 [(0, .ex (.int .i64 2)), (1, .ex (.int .i64 (↑n : Int)))], [], 0⟩) (by kernel_rfl) (by kernel_rfl) ?_
  refine AG.gk [] [(1, { val := .ex (.bool false) })] [0, 1, 28] [] 0 (st' := ⟨mkT 110 [(0, .ex (.int .i64 2)), (1, .ex (.int .i64 (↑n : Int))), (28, .ex (.bool false))], [], 0⟩) (obs := [Ob.eq (.ex (.bool (decide ((↑n : Int) > 65536)))) (.ex (.bool false))]) (by kernel_rfl) (by kernel_rfl) ⟨(by simp only [Ob.holds, q6]), trivial⟩ ?_
  refine AG.rk 12 [1] [] 0 (todo' := [.code (sub (codeOf Try.f12) [1, 1, 1, 1, 1, 0, 1, 0, 0]), .code (sub (codeOf Try.f12) [1, 0, 1, 0, 1]), .code (sub (codeOf Try.f12) [1, 1, 1, 1, 1, 1])]) (st' := ⟨mkT 110 [(1, .ex (.int .i64 (↑n : Int)))], [], 0⟩) (by kernel_rfl) (by kernel_rfl) ?_
  refine AG.gk [] [(2, { val := .ex (.int .i64 (↑(n - 16) : Int)) })] [4, 5] [16] 17 (st' := ⟨mkT 110 [(4, .s 16 0 2 2), (5, .ex (.int .i64 0))], [(16, .own [Value.int .i64 3, Value.int .i64 0, Value.int .i64 16, Value.int .i64 1, Value.int .i64 16, Value.int .i64 (↑(n - 16) : Int)])], 17⟩) (obs := [Ob.eq (.ex (.int .i64 (IntKind.wrap .i64 ((↑n : Int) - 16)))) (.ex (.int .i64 (↑(n - 16) : Int)))]) (by kernel_rfl) (by kernel_rfl) ⟨(by simp only [Ob.holds, e1]), trivial⟩ ?_
  refine AG.ren 16 0 (st' := ⟨mkT 110 [(4, .s 0 0 2 2), (5, .ex (.int .i64 0))], [(0, .own [Value.int .i64 3, Value.int .i64 0, Value.int .i64 16, Value.int .i64 1, Value.int .i64 16, Value.int .i64 (↑(n - 16) : Int)])], 17⟩) (by kernel_rfl) (by kernel_rfl) ?_
  refine AG.fin ([.s 0 0 2 2, .ex (.int .i64 0)]) Go.Proofs.Try.f12 fn12 (.inr ⟨_, rfl⟩) (obs := []) (by kernel_rfl) trivial (by kernel_rfl) ⟨(by kernel_rfl), trivial⟩ (by kernel_rfl)
theorem rparts3_ok (n : Nat) (h : 1 ≤ n) (h' : n < 32) : CallOK Try.prog (fun _ => none) 12 [.ex (.int .i64 3), .ex (.int .i64 (n : Int))] [] { val := .tup [.s 0 0 2 2, .ex (.int .i64 0)], upd := [(0, .own (rc (partL 3 n)))], nks := [0] } := by
  have hL : partL 3 n = [(10, 0, n)] ++ [(11, n, n)] := by unfold partL; rw [if_neg (by decide), if_neg (by decide), if_pos h']
  have q3 : decide ((n : Int) < 1) = false := by simp; omega
  have q6 : decide ((n : Int) > 65536) = false := by simp; omega
  have q7 : decide ((n : Int) < 32) = true := by simp; omega
  rw [hL]
  refine CallOK.from0 hmix Try.f12 0 fn12 (by kernel_rfl) (by kernel_rfl) (fun w ρ h1 h2 => ?_)
  refine AG.rk 9 [0, 1] [] 0 (todo' := [.code (sub (codeOf Try.f12) [1, 1, 0, 0]), .code (sub (codeOf Try.f12) [1, 1, 0, 1]), .code (sub (codeOf Try.f12) [1, 1, 1])]) (st' := ⟨mkT 110 [(0, .ex (.int .i64 3)), (1, .ex (.int .i64 (↑n : Int)))], [], 0⟩) (by kernel_rfl) (by kernel_rfl) ?_
  refine AG.gk [] [(1, { val := .ex (.bool false) })] [0, 1, 26] [] 0 (st' := ⟨mkT 110 [(0, .ex (.int .i64 3)), (1, .ex (.int .i64 (↑n : Int))), (26, .ex (.bool false))], [], 0⟩) (obs := [Ob.eq (.ex (.bool (decide ((↑n : Int) < 1)))) (.ex (.bool false))]) (by kernel_rfl) (by kernel_rfl) ⟨(by simp only [Ob.holds, q3]), trivial⟩ ?_
  refine AG.rk 4 [0, 1] [] 0 (todo' := [.code (sub (codeOf Try.f12) [1, 1, 1, 0, 0]), .code (sub (codeOf Try.f12) [1, 1, 1, 0, 1]), .code (sub (codeOf Try.f12) [1, 1, 1, 1])]) (st' := ⟨mkT 110 [(0, .ex (.int .i64 3)), (1, .ex (.int .i64 (↑n : Int)))], [], 0⟩) (by kernel_rfl) (by kernel_rfl) ?_
  refine AG.gk [] [(1, { val := .ex (.bool false) })] [0, 1, 28] [] 0 (st' := ⟨mkT 110 [(0, .ex (.int .i64 3)), (1, .ex (.int .i64 (↑n : Int))), (28, .ex (.bool false))], [], 0⟩) (obs := [Ob.eq (.ex (.bool (decide ((↑n : Int) > 65536)))) (.ex (.bool false))]) (by kernel_rfl) (by kernel_rfl) ⟨(by simp only [Ob.holds, q6]), trivial⟩ ?_
  refine AG.rk 14 [1] [] 0 (todo' := [.code (sub (codeOf Try.f12) [1, 1, 1, 1, 1, 1, 0, 0]), .code (sub (codeOf Try.f12) [1, 1, 1, 1, 1, 1, 0, 1]), .code (sub (codeOf Try.f12) [1, 1, 1, 1, 1, 1, 1])]) (st' := ⟨mkT 110 [(1, .ex (.int .i64 (↑n : Int)))], [], 0⟩) (by kernel_rfl) (by kernel_rfl) ?_
  refine AG.gk [] [(1, { val := .ex (.bool true) })] [1, 46] [] 0 (st' := ⟨mkT 110 [(1, .ex (.int .i64 (↑n : Int))), (46, .ex (.bool true))], [], 0⟩) (obs := [Ob.eq (.ex (.bool (decide ((↑n : Int) < 32)))) (.ex (.bool true))]) (by kernel_rfl) (by kernel_rfl) ⟨(by simp only [Ob.holds, q7]), trivial⟩ ?_
  refine AG.rk 3 [4, 5] [20] 21 (todo' := [.code (sub (codeOf Try.f12) [1, 0, 1, 0, 1]), .code (sub (codeOf Try.f12) [1, 1, 1, 1, 1, 1, 1])]) (st' := ⟨mkT 110 [(4, .s 20 0 2 2), (5, .ex (.int .i64 0))], [(20, .own [Value.int .i64 10, Value.int .i64 0, Value.int .i64 (↑n : Int), Value.int .i64 11, Value.int .i64 (↑n : Int), Value.int .i64 (↑n : Int)])], 21⟩) (by kernel_rfl) (by kernel_rfl) ?_
  refine AG.ren 20 0 (st' := ⟨mkT 110 [(4, .s 0 0 2 2), (5, .ex (.int .i64 0))], [(0, .own [Value.int .i64 10, Value.int .i64 0, Value.int .i64 (↑n : Int), Value.int .i64 11, Value.int .i64 (↑n : Int), Value.int .i64 (↑n : Int)])], 21⟩) (by kernel_rfl) (by kernel_rfl) ?_
  refine AG.fin ([.s 0 0 2 2, .ex (.int .i64 0)]) Go.Proofs.Try.f12 fn12 (.inr ⟨_, rfl⟩) (obs := []) (by kernel_rfl) trivial (by kernel_rfl) ⟨(by kernel_rfl), trivial⟩ (by kernel_rfl)
theorem rpartsA_ok (n : Nat) (h : 32 ≤ n) (h' : n ≤ 65536) : CallOK Try.prog (fun _ => none) 12 [.ex (.int .i64 3), .ex (.int .i64 (n : Int))] [] { val := .tup [.o 0 0 (aezL n).length, .ex (.int .i64 0)], upd := [(0, .rowX 3 (rc (aezL n)))], nks := [0] } := by
  have q3 : decide ((n : Int) < 1) = false := by simp; omega
  have q6 : decide ((n : Int) > 65536) = false := by simp; omega
  have q7 : decide ((n : Int) < 32) = false := by simp; omega
  have e1 : IntKind.i64.wrap ((n : Int) - 32) = ((n - 32 : Nat) : Int) := by rw [wrap64_id _ (by omega) (by omega)]; omega
  obtain ⟨P, hP⟩ : ∃ P, P = (n - 32) / 32 := ⟨_, rfl⟩
  obtain ⟨d, hd⟩ : ∃ d, d = (n - 32) % 32 := ⟨_, rfl⟩
  have e2 : IntKind.i64.wrap (((n - 32 : Nat) : Int).tdiv 32) = (P : Int) := by rw [Int.tdiv_eq_ediv_of_nonneg (by omega), wrap64_id _ (by omega) (by omega)]; omega
  refine CallOK.from0 hmix Try.f12 0 fn12 (by kernel_rfl) (by kernel_rfl) (fun w ρ h1 h2 => ?_)
  refine AG.rk 9 [0, 1] [] 0 (todo' := [.code (sub (codeOf Try.f12) [1, 1, 0, 0]), .code (sub (codeOf Try.f12) [1, 1, 0, 1]), .code (sub (codeOf Try.f12) [1, 1, 1])]) (st' := ⟨mkT 110 [(0, .ex (.int .i64 3)), (1, .ex (.int .i64 (↑n : Int)))], [], 0⟩) (by kernel_rfl) (by kernel_rfl) ?_
  refine AG.gk [] [(1, { val := .ex (.bool false) })] [0, 1, 26] [] 0 (st' := ⟨mkT 110 [(0, .ex (.int .i64 3)), (1, .ex (.int .i64 (↑n : Int))), (26, .ex (.bool false))], [], 0⟩) (obs := [Ob.eq (.ex (.bool (decide ((↑n : Int) < 1)))) (.ex (.bool false))]) (by kernel_rfl) (by kernel_rfl) ⟨(by simp only [Ob.holds, q3]), trivial⟩ ?_
  refine AG.rk 4 [0, 1] [] 0 (todo' := [.code (sub (codeOf Try.f12) [1, 1, 1, 0, 0]), .code (sub (codeOf Try.f12) [1, 1, 1, 0, 1]), .code (sub (codeOf Try.f12) [1, 1, 1, 1])]) (st' := ⟨mkT 110 [(0, .ex (.int .i64 3)), (1, .ex (.int .i64 (↑n : Int)))], [], 0⟩) (by kernel_rfl) (by kernel_rfl) ?_
  refine AG.gk [] [(1, { val := .ex (.bool false) })] [0, 1, 28] [] 0 (st' := ⟨mkT 110 [(0, .ex (.int .i64 3)), (1, .ex (.int .i64 (↑n : Int))), (28, .ex (.bool false))], [], 0⟩) (obs := [Ob.eq (.ex (.bool (decide ((↑n : Int) > 65536)))) (.ex (.bool false))]) (by kernel_rfl) (by kernel_rfl) ⟨(by simp only [Ob.holds, q6]), trivial⟩ ?_
  refine AG.rk 14 [1] [] 0 (todo' := [.code (sub (codeOf Try.f12) [1, 1, 1, 1, 1, 1, 0, 0]), .code (sub (codeOf Try.f12) [1, 1, 1, 1, 1, 1, 0, 1]), .code (sub (codeOf Try.f12) [1, 1, 1, 1, 1, 1, 1])]) (st' := ⟨mkT 110 [(1, .ex (.int .i64 (↑n : Int)))], [], 0⟩) (by kernel_rfl) (by kernel_rfl) ?_
  refine AG.gk [] [(1, { val := .ex (.bool false) })] [1, 46] [] 0 (st' := ⟨mkT 110 [(1, .ex (.int .i64 (↑n : Int))), (46, .ex (.bool false))], [], 0⟩) (obs := [Ob.eq (.ex (.bool (decide ((↑n : Int) < 32)))) (.ex (.bool false))]) (by kernel_rfl) (by kernel_rfl) ⟨(by simp only [Ob.holds, q7]), trivial⟩ ?_
  refine AG.rk 5 [1, 6] [] 0 (todo' := [.code (sub (codeOf Try.f12) [1, 1, 1, 1, 1, 1, 1, 1, 0]), .code (sub (codeOf Try.f12) [1, 1, 1, 1, 1, 1, 1, 1, 1])]) (st' := ⟨mkT 110 [(1, .ex (.int .i64 (↑n : Int))), (6, .ex (.slice none 0 0))], [], 0⟩) (by kernel_rfl) (by kernel_rfl) ?_
  refine AG.gk [] [(1, { val := .ex (.int .i64 (↑(n - 32) : Int)) }), (2, { val := .ex (.int .i64 (↑P : Int)) })] [1, 6, 7] [] 0 (st' := ⟨mkT 110 [(1, .ex (.int .i64 (↑n : Int))), (6, .ex (.slice none 0 0)), (7, .ex (.int .i64 (↑P : Int)))], [], 0⟩) (obs := [Ob.eq (.ex (.int .i64 (IntKind.wrap .i64 ((↑n : Int) - 32)))) (.ex (.int .i64 (↑(n - 32) : Int))), Ob.eq (.ex (.int .i64 (IntKind.wrap .i64 (Int.tdiv (↑(n - 32) : Int) 32)))) (.ex (.int .i64 (↑P : Int))), Ob.le 1 32]) (by kernel_rfl) (by kernel_rfl) ⟨(by simp only [Ob.holds, e1]), (by simp only [Ob.holds, e2]), (Ob.holds_of_dec (by kernel_rfl)), trivial⟩ ?_
  refine AG.rk 4 [1, 6, 7, 8] [] 0 (todo' := [.code (sub (codeOf Try.f12) [1, 1, 1, 1, 1, 1, 1, 1, 1, 0, 1, 0]), .inBlock 0, .code (sub (codeOf Try.f12) [1, 1, 1, 1, 1, 1, 1, 1, 1, 1])]) (st' := ⟨mkT 110 [(1, .ex (.int .i64 (↑n : Int))), (6, .ex (.slice none 0 0)), (7, .ex (.int .i64 (↑P : Int))), (8, .ex (.int .i64 0))], [], 0⟩) (by kernel_rfl) (by kernel_rfl) ?_
  refine AG.rk 1 [1, 6, 7, 8] [] 0 (todo' := [.code (sub (codeOf Try.f12) [1, 1, 1, 1, 1, 1, 1, 1, 1, 0, 1, 0, 0]), .inLoop (sub (codeOf Try.f12) [1, 1, 1, 1, 1, 1, 1, 1, 1, 0, 1, 0, 0]), .inBlock 0, .code (sub (codeOf Try.f12) [1, 1, 1, 1, 1, 1, 1, 1, 1, 1])]) (st' := ⟨mkT 110 [(1, .ex (.int .i64 (↑n : Int))), (6, .ex (.slice none 0 0)), (7, .ex (.int .i64 (↑P : Int))), (8, .ex (.int .i64 0))], [], 0⟩) (by kernel_rfl) (by kernel_rfl) ?_
  have hn : n = 32 + 32 * P + d := by omega
  have hd32 : d < 32 := by omega
  refine AG.nilrowX 6 3 rfl rfl ?_
  refine AG.indE (α := {x : Nat // x ≤ P}) (fun x => P - x.1)
    (fun x => ⟨mkT 110 [(1, .ex (.int .i64 (n : Int))), (6, .o 0 0 (2 * x.1)), (7, .ex (.int .i64 (P : Int))), (8, .ex (.int .i64 (x.1 : Int)))], [(0, .rowX 3 (rc (pairL x.1)))], 1⟩) ⟨0, by omega⟩ (by kernel_rfl) ?_
  rintro ⟨i, hi⟩ ih
  simp only at hi ih ⊢
  have hRl : (rc (pairL i)).length = 6 * i := by rw [rc_len, pairL_len]; omega
  refine AG.rk 3 [1, 6, 7, 8, 58] [0] 1 (todo' := [.code (sub (codeOf Try.f12) [1, 1, 1, 1, 1, 1, 1, 1, 1, 0, 1, 0, 0, 0, 1]), .code (sub (codeOf Try.f12) [1, 1, 1, 1, 1, 1, 1, 1, 1, 0, 1, 0, 0, 1]), .inLoop (sub (codeOf Try.f12) [1, 1, 1, 1, 1, 1, 1, 1, 1, 0, 1, 0, 0]), .inBlock 0, .code (sub (codeOf Try.f12) [1, 1, 1, 1, 1, 1, 1, 1, 1, 1])]) (st' := ⟨mkT 110 [(1, .ex (.int .i64 (↑n : Int))), (6, .o 0 0 (2 * i)), (7, .ex (.int .i64 (↑P : Int))), (8, .ex (.int .i64 (↑i : Int))), (58, .ex (.bool (decide ((↑i : Int) < (↑P : Int)))))], [(0, .rowX 3 (rc (pairL i)))], 1⟩) (by kernel_rfl) (by kernel_rfl) ?_
  refine AG.cond (b := decide ((↑i : Int) < (↑P : Int))) (by kernel_rfl) (fun hc => ?_) (fun hc => ?_)
  · have hi' : i < P := by simp at hc; omega
    clear hc
    have m1 : IntKind.i64.wrap (32 * (i : Int)) = ((32 * i : Nat) : Int) := by rw [wrap64_id _ (by omega) (by omega)]; omega
    have m2 : IntKind.i64.wrap (((32 * i : Nat) : Int) + 16) = ((32 * i + 16 : Nat) : Int) := by rw [wrap64_id _ (by omega) (by omega)]; omega
    have v5 : IntKind.i64.wrap ((i : Int) + 1) = ((i + 1 : Nat) : Int) := by rw [wrap64_id _ (by omega) (by omega)]; omega
    have ih1 := ih ⟨i + 1, by omega⟩ (by simp only; omega)
    simp only at ih1
    have hB : rc (pairL (i + 1)) = rc (pairL i) ++ [.int .i64 4, .int .i64 ((32 * i : Nat) : Int), .int .i64 16, .int .i64 5, .int .i64 ((32 * i + 16 : Nat) : Int), .int .i64 16] := by
      show rc (pairL i ++ [(4, 32 * i, 16)] ++ [(5, 32 * i + 16, 16)]) = _
      rw [rc_app, rc_app, List.append_assoc]; rfl
    rw [hB] at ih1
    generalize rc (pairL i) = R at *
    refine AG.rk 3 [1, 6, 7, 8] [0] 1 (todo' := [.code (sub (codeOf Try.f12) [1, 1, 1, 1, 1, 1, 1, 1, 1, 0, 1, 0, 0, 1, 0, 0]), .inBlock 1, .code (sub (codeOf Try.f12) [1, 1, 1, 1, 1, 1, 1, 1, 1, 0, 1, 0, 0, 1, 1]), .inLoop (sub (codeOf Try.f12) [1, 1, 1, 1, 1, 1, 1, 1, 1, 0, 1, 0, 0]), .inBlock 0, .code (sub (codeOf Try.f12) [1, 1, 1, 1, 1, 1, 1, 1, 1, 1])]) (st' := ⟨mkT 110 [(1, .ex (.int .i64 (↑n : Int))), (6, .o 0 0 (2 * i)), (7, .ex (.int .i64 (↑P : Int))), (8, .ex (.int .i64 (↑i : Int)))], [(0, .rowX 3 R)], 1⟩) (by kernel_rfl) (by kernel_rfl) ?_
    refine AG.gk [9] [(2, { val := .ex (.int .i64 (↑(32 * i) : Int)) }), (5, { val := .ex (.int .i64 (↑(32 * i) : Int)) }), (6, { val := .ex (.int .i64 (↑(32 * i + 16) : Int)) })] [1, 6, 7, 8] [37] 38 (st' := ⟨mkT 110 [(1, .ex (.int .i64 (↑n : Int))), (6, .o 37 0 (2 * i + 2)), (7, .ex (.int .i64 (↑P : Int))), (8, .ex (.int .i64 (↑i : Int)))], [(37, .rowX 3 (R ++ List.take 6 (List.drop 0 [Value.int .i64 4, Value.int .i64 (↑(32 * i) : Int), Value.int .i64 16, Value.int .i64 5, Value.int .i64 (↑(32 * i + 16) : Int), Value.int .i64 16])))], 38⟩) (obs := [Ob.eq (.ex (.int .i64 (IntKind.wrap .i64 (32 * (↑i : Int))))) (.ex (.int .i64 (↑(32 * i) : Int))), Ob.eq (.ex (.int .i64 (IntKind.wrap .i64 (32 * (↑i : Int))))) (.ex (.int .i64 (↑(32 * i) : Int))), Ob.eq (.ex (.int .i64 (IntKind.wrap .i64 ((↑(32 * i) : Int) + 16)))) (.ex (.int .i64 (↑(32 * i + 16) : Int))), Ob.le ((2 * i + 2) * 24) 140737488355328, Ob.le (2 * i + 2) 140737488355328, Ob.one [Value.int .i64 4, Value.int .i64 (↑(32 * i) : Int), Value.int .i64 16, Value.int .i64 5, Value.int .i64 (↑(32 * i + 16) : Int), Value.int .i64 16], Ob.le (2 * i * 3) (List.length R), Ob.le (List.length R) (2 * i * 3), Ob.le 6 6]) (by kernel_rfl) (by kernel_rfl) ⟨(by simp only [Ob.holds, m1]), (by simp only [Ob.holds, m1]), (by simp only [Ob.holds, m2]), (by (simp only [Ob.holds]; omega)), (by (simp only [Ob.holds]; omega)), (by rfl), (by (simp only [Ob.holds]; omega)), (by (simp only [Ob.holds]; omega)), (Ob.holds_of_dec (by kernel_rfl)), trivial⟩ ?_
    refine AG.rk 3 [1, 6, 7, 8] [37] 38 (todo' := [.code (sub (codeOf Try.f12) [1, 1, 1, 1, 1, 1, 1, 1, 1, 0, 1, 0, 0]), .inLoop (sub (codeOf Try.f12) [1, 1, 1, 1, 1, 1, 1, 1, 1, 0, 1, 0, 0]), .inBlock 0, .code (sub (codeOf Try.f12) [1, 1, 1, 1, 1, 1, 1, 1, 1, 1])]) (st' := ⟨mkT 110 [(1, .ex (.int .i64 (↑n : Int))), (6, .o 37 0 (2 * i + 2)), (7, .ex (.int .i64 (↑P : Int))), (8, .ex (.int .i64 (IntKind.wrap .i64 ((↑i : Int) + 1))))], [(37, .rowX 3 (R ++ List.take 6 (List.drop 0 [Value.int .i64 4, Value.int .i64 (↑(32 * i) : Int), Value.int .i64 16, Value.int .i64 5, Value.int .i64 (↑(32 * i + 16) : Int), Value.int .i64 16])))], 38⟩) (by kernel_rfl) (by kernel_rfl) ?_
    rewrite [v5]
    refine AG.ren 37 0 rfl (by kernel_rfl) ?_
    refine AG.keep [1, 6, 7, 8] [0] 1 rfl (by kernel_rfl) ?_
    exact AG.conv (by kernel_rfl) ih1
  · have hiP : i = P := by simp at hc; omega
    clear hc ih
    subst hiP
    have m1 : IntKind.i64.wrap (32 * (i : Int)) = ((32 * i : Nat) : Int) := by rw [wrap64_id _ (by omega) (by omega)]; omega
    have m2 : IntKind.i64.wrap (((32 * i : Nat) : Int) + 16) = ((32 * i + 16 : Nat) : Int) := by rw [wrap64_id _ (by omega) (by omega)]; omega
    have m3 : IntKind.i64.wrap ((n : Int) - 32) = ((n - 32 : Nat) : Int) := e1
    have m5 : IntKind.i64.wrap ((n : Int) - 16) = ((n - 16 : Nat) : Int) := by rw [wrap64_id _ (by omega) (by omega)]; omega
    have g4 : IntKind.i64.wrap (((n - 32 : Nat) : Int) - ((32 * i : Nat) : Int)) = (d : Int) := by rw [wrap64_id _ (by omega) (by omega)]; omega
    by_cases h0 : d = 0
    · have g1 : decide ((d : Int) > 0) = false := by simp; omega
      have g2 : decide ((d : Int) ≥ 16) = false := by simp; omega
      have hA : aezL n = pairL i ++ [(8, n - 32, 16)] ++ [(9, n - 16, 16)] := by
        unfold aezL restL
        rw [← hP, ← hd]
        rw [if_pos h0]
      have hAl : (aezL n).length = 2 * i + 2 := by rw [hA]; simp [pairL_len]
      have hAc := congrArg rc hA
      simp only [rc_app] at hAc
      rw [hAl, hAc]
      generalize rc (pairL i) = R at *
      refine AG.rk 2 [1, 6, 7] [0] 1 (todo' := [.code (sub (codeOf Try.f12) [1, 1, 1, 1, 1, 1, 1, 1, 1, 1, 0]), .code (sub (codeOf Try.f12) [1, 1, 1, 1, 1, 1, 1, 1, 1, 1, 1])]) (st' := ⟨mkT 110 [(1, .ex (.int .i64 (↑n : Int))), (6, .o 0 0 (2 * i)), (7, .ex (.int .i64 (↑i : Int)))], [(0, .rowX 3 R)], 1⟩) (by kernel_rfl) (by kernel_rfl) ?_
      refine AG.gk [] [(1, { val := .ex (.int .i64 (↑(32 * i) : Int)) })] [1, 6, 9] [0] 1 (st' := ⟨mkT 110 [(1, .ex (.int .i64 (↑n : Int))), (6, .o 0 0 (2 * i)), (9, .ex (.int .i64 (↑(32 * i) : Int)))], [(0, .rowX 3 R)], 1⟩) (obs := [Ob.eq (.ex (.int .i64 (IntKind.wrap .i64 (32 * (↑i : Int))))) (.ex (.int .i64 (↑(32 * i) : Int)))]) (by kernel_rfl) (by kernel_rfl) ⟨(by simp only [Ob.holds, m1]), trivial⟩ ?_
      refine AG.rk 1 [1, 6, 9] [0] 1 (todo' := [.code (sub (codeOf Try.f12) [1, 1, 1, 1, 1, 1, 1, 1, 1, 1, 1, 0]), .code (sub (codeOf Try.f12) [1, 1, 1, 1, 1, 1, 1, 1, 1, 1, 1, 1])]) (st' := ⟨mkT 110 [(1, .ex (.int .i64 (↑n : Int))), (6, .o 0 0 (2 * i)), (9, .ex (.int .i64 (↑(32 * i) : Int)))], [(0, .rowX 3 R)], 1⟩) (by kernel_rfl) (by kernel_rfl) ?_
      refine AG.gk [] [(1, { val := .ex (.int .i64 (↑(n - 32) : Int)) }), (3, { val := .ex (.int .i64 (↑d : Int)) })] [1, 6, 9, 10] [0] 1 (st' := ⟨mkT 110 [(1, .ex (.int .i64 (↑n : Int))), (6, .o 0 0 (2 * i)), (9, .ex (.int .i64 (↑(32 * i) : Int))), (10, .ex (.int .i64 (↑d : Int)))], [(0, .rowX 3 R)], 1⟩) (obs := [Ob.eq (.ex (.int .i64 (IntKind.wrap .i64 ((↑n : Int) - 32)))) (.ex (.int .i64 (↑(n - 32) : Int))), Ob.eq (.ex (.int .i64 (IntKind.wrap .i64 ((↑(n - 32) : Int) - (↑(32 * i) : Int))))) (.ex (.int .i64 (↑d : Int)))]) (by kernel_rfl) (by kernel_rfl) ⟨(by simp only [Ob.holds, m3]), (by simp only [Ob.holds, g4]), trivial⟩ ?_
      refine AG.rk 2 [1, 6, 9, 10] [0] 1 (todo' := [.code (sub (codeOf Try.f12) [1, 1, 1, 1, 1, 1, 1, 1, 1, 1, 1, 1, 0, 0]), .code (sub (codeOf Try.f12) [1, 1, 1, 1, 1, 1, 1, 1, 1, 1, 1, 1, 0, 1]), .code (sub (codeOf Try.f12) [1, 1, 1, 1, 1, 1, 1, 1, 1, 1, 1, 1, 1])]) (st' := ⟨mkT 110 [(1, .ex (.int .i64 (↑n : Int))), (6, .o 0 0 (2 * i)), (9, .ex (.int .i64 (↑(32 * i) : Int))), (10, .ex (.int .i64 (↑d : Int)))], [(0, .rowX 3 R)], 1⟩) (by kernel_rfl) (by kernel_rfl) ?_
      refine AG.gk [] [(1, { val := .ex (.bool false) })] [1, 6, 9, 10, 82] [0] 1 (st' := ⟨mkT 110 [(1, .ex (.int .i64 (↑n : Int))), (6, .o 0 0 (2 * i)), (9, .ex (.int .i64 (↑(32 * i) : Int))), (10, .ex (.int .i64 (↑d : Int))), (82, .ex (.bool false))], [(0, .rowX 3 R)], 1⟩) (obs := [Ob.eq (.ex (.bool (decide ((↑d : Int) > 0)))) (.ex (.bool false))]) (by kernel_rfl) (by kernel_rfl) ⟨(by simp only [Ob.holds, g1]), trivial⟩ ?_
      refine AG.rk 4 [1, 6, 9, 10] [0] 1 (todo' := [.code (sub (codeOf Try.f12) [1, 1, 1, 1, 1, 1, 1, 1, 1, 1, 1, 1, 1, 0, 0]), .code (sub (codeOf Try.f12) [1, 1, 1, 1, 1, 1, 1, 1, 1, 1, 1, 1, 1, 0, 1]), .code (sub (codeOf Try.f12) [1, 1, 1, 1, 1, 1, 1, 1, 1, 1, 1, 1, 1, 1])]) (st' := ⟨mkT 110 [(1, .ex (.int .i64 (↑n : Int))), (6, .o 0 0 (2 * i)), (9, .ex (.int .i64 (↑(32 * i) : Int))), (10, .ex (.int .i64 (↑d : Int)))], [(0, .rowX 3 R)], 1⟩) (by kernel_rfl) (by kernel_rfl) ?_
      refine AG.gk [] [(1, { val := .ex (.bool false) })] [1, 6, 9, 10, 90] [0] 1 (st' := ⟨mkT 110 [(1, .ex (.int .i64 (↑n : Int))), (6, .o 0 0 (2 * i)), (9, .ex (.int .i64 (↑(32 * i) : Int))), (10, .ex (.int .i64 (↑d : Int))), (90, .ex (.bool false))], [(0, .rowX 3 R)], 1⟩) (obs := [Ob.eq (.ex (.bool (decide ((↑d : Int) ≥ 16)))) (.ex (.bool false))]) (by kernel_rfl) (by kernel_rfl) ⟨(by simp only [Ob.holds, g2]), trivial⟩ ?_
      refine AG.rk 3 [1, 6] [0] 1 (todo' := [.code (sub (codeOf Try.f12) [1, 1, 1, 1, 1, 1, 1, 1, 1, 1, 1, 1, 1, 1, 0]), .code (sub (codeOf Try.f12) [1, 0, 1, 0, 1])]) (st' := ⟨mkT 110 [(1, .ex (.int .i64 (↑n : Int))), (6, .o 0 0 (2 * i))], [(0, .rowX 3 R)], 1⟩) (by kernel_rfl) (by kernel_rfl) ?_
      refine AG.gk [8] [(2, { val := .ex (.int .i64 (↑(n - 32) : Int)) }), (5, { val := .ex (.int .i64 (↑(n - 16) : Int)) })] [4, 5] [33] 34 (st' := ⟨mkT 110 [(4, .o 33 0 (2 * i + 2)), (5, .ex (.int .i64 0))], [(33, .rowX 3 (R ++ List.take 6 (List.drop 0 [Value.int .i64 8, Value.int .i64 (↑(n - 32) : Int), Value.int .i64 16, Value.int .i64 9, Value.int .i64 (↑(n - 16) : Int), Value.int .i64 16])))], 34⟩) (obs := [Ob.eq (.ex (.int .i64 (IntKind.wrap .i64 ((↑n : Int) - 32)))) (.ex (.int .i64 (↑(n - 32) : Int))), Ob.eq (.ex (.int .i64 (IntKind.wrap .i64 ((↑n : Int) - 16)))) (.ex (.int .i64 (↑(n - 16) : Int))), Ob.le ((2 * i + 2) * 24) 140737488355328, Ob.le (2 * i + 2) 140737488355328, Ob.one [Value.int .i64 8, Value.int .i64 (↑(n - 32) : Int), Value.int .i64 16, Value.int .i64 9, Value.int .i64 (↑(n - 16) : Int), Value.int .i64 16], Ob.le (2 * i * 3) (List.length R), Ob.le (List.length R) (2 * i * 3), Ob.le 6 6]) (by kernel_rfl) (by kernel_rfl) ⟨(by simp only [Ob.holds, m3]), (by simp only [Ob.holds, m5]), (by (simp only [Ob.holds]; omega)), (by (simp only [Ob.holds]; omega)), (by rfl), (by (simp only [Ob.holds]; omega)), (by (simp only [Ob.holds]; omega)), (Ob.holds_of_dec (by kernel_rfl)), trivial⟩ ?_
      refine AG.ren 33 0 (st' := ⟨mkT 110 [(4, .o 0 0 (2 * i + 2)), (5, .ex (.int .i64 0))], [(0, .rowX 3 (R ++ List.take 6 (List.drop 0 [Value.int .i64 8, Value.int .i64 (↑(n - 32) : Int), Value.int .i64 16, Value.int .i64 9, Value.int .i64 (↑(n - 16) : Int), Value.int .i64 16])))], 34⟩) (by kernel_rfl) (by kernel_rfl) ?_
      refine AG.fin ([.o 0 0 (2 * i + 2), .ex (.int .i64 0)]) Go.Proofs.Try.f12 fn12 (.inr ⟨_, rfl⟩) (obs := []) (by kernel_rfl) trivial (by kernel_rfl) ⟨?_, trivial⟩ (by kernel_rfl)
      refine congrArg (fun z => some (Blk.rowX 3 z)) (?_ : (_ : List Value) = _)
      simp [rc, r1]
    by_cases h16 : d < 16
    · have g1 : decide ((d : Int) > 0) = true := by simp; omega
      have g3 : decide ((d : Int) < 16) = true := by simp; omega
      have g2 : decide ((d : Int) ≥ 16) = false := by simp; omega
      have hA : aezL n = pairL i ++ [(6, 32 * i, d)] ++ [(8, n - 32, 16)] ++ [(9, n - 16, 16)] := by
        unfold aezL restL
        rw [← hP, ← hd]
        rw [if_neg h0, if_pos h16]
      have hAl : (aezL n).length = 2 * i + 1 + 2 := by rw [hA]; simp [pairL_len]
      have hAc := congrArg rc hA
      simp only [rc_app] at hAc
      rw [hAl, hAc]
      generalize rc (pairL i) = R at *
      refine AG.rk 2 [1, 6, 7] [0] 1 (todo' := [.code (sub (codeOf Try.f12) [1, 1, 1, 1, 1, 1, 1, 1, 1, 1, 0]), .code (sub (codeOf Try.f12) [1, 1, 1, 1, 1, 1, 1, 1, 1, 1, 1])]) (st' := ⟨mkT 110 [(1, .ex (.int .i64 (↑n : Int))), (6, .o 0 0 (2 * i)), (7, .ex (.int .i64 (↑i : Int)))], [(0, .rowX 3 R)], 1⟩) (by kernel_rfl) (by kernel_rfl) ?_
      refine AG.gk [] [(1, { val := .ex (.int .i64 (↑(32 * i) : Int)) })] [1, 6, 9] [0] 1 (st' := ⟨mkT 110 [(1, .ex (.int .i64 (↑n : Int))), (6, .o 0 0 (2 * i)), (9, .ex (.int .i64 (↑(32 * i) : Int)))], [(0, .rowX 3 R)], 1⟩) (obs := [Ob.eq (.ex (.int .i64 (IntKind.wrap .i64 (32 * (↑i : Int))))) (.ex (.int .i64 (↑(32 * i) : Int)))]) (by kernel_rfl) (by kernel_rfl) ⟨(by simp only [Ob.holds, m1]), trivial⟩ ?_
      refine AG.rk 1 [1, 6, 9] [0] 1 (todo' := [.code (sub (codeOf Try.f12) [1, 1, 1, 1, 1, 1, 1, 1, 1, 1, 1, 0]), .code (sub (codeOf Try.f12) [1, 1, 1, 1, 1, 1, 1, 1, 1, 1, 1, 1])]) (st' := ⟨mkT 110 [(1, .ex (.int .i64 (↑n : Int))), (6, .o 0 0 (2 * i)), (9, .ex (.int .i64 (↑(32 * i) : Int)))], [(0, .rowX 3 R)], 1⟩) (by kernel_rfl) (by kernel_rfl) ?_
      refine AG.gk [] [(1, { val := .ex (.int .i64 (↑(n - 32) : Int)) }), (3, { val := .ex (.int .i64 (↑d : Int)) })] [1, 6, 9, 10] [0] 1 (st' := ⟨mkT 110 [(1, .ex (.int .i64 (↑n : Int))), (6, .o 0 0 (2 * i)), (9, .ex (.int .i64 (↑(32 * i) : Int))), (10, .ex (.int .i64 (↑d : Int)))], [(0, .rowX 3 R)], 1⟩) (obs := [Ob.eq (.ex (.int .i64 (IntKind.wrap .i64 ((↑n : Int) - 32)))) (.ex (.int .i64 (↑(n - 32) : Int))), Ob.eq (.ex (.int .i64 (IntKind.wrap .i64 ((↑(n - 32) : Int) - (↑(32 * i) : Int))))) (.ex (.int .i64 (↑d : Int)))]) (by kernel_rfl) (by kernel_rfl) ⟨(by simp only [Ob.holds, m3]), (by simp only [Ob.holds, g4]), trivial⟩ ?_
      refine AG.rk 2 [1, 6, 9, 10] [0] 1 (todo' := [.code (sub (codeOf Try.f12) [1, 1, 1, 1, 1, 1, 1, 1, 1, 1, 1, 1, 0, 0]), .code (sub (codeOf Try.f12) [1, 1, 1, 1, 1, 1, 1, 1, 1, 1, 1, 1, 0, 1]), .code (sub (codeOf Try.f12) [1, 1, 1, 1, 1, 1, 1, 1, 1, 1, 1, 1, 1])]) (st' := ⟨mkT 110 [(1, .ex (.int .i64 (↑n : Int))), (6, .o 0 0 (2 * i)), (9, .ex (.int .i64 (↑(32 * i) : Int))), (10, .ex (.int .i64 (↑d : Int)))], [(0, .rowX 3 R)], 1⟩) (by kernel_rfl) (by kernel_rfl) ?_
      refine AG.gk [] [(1, { val := .ex (.bool true) }), (4, { val := .ex (.bool true) })] [1, 6, 9, 10, 82] [0] 1 (st' := ⟨mkT 110 [(1, .ex (.int .i64 (↑n : Int))), (6, .o 0 0 (2 * i)), (9, .ex (.int .i64 (↑(32 * i) : Int))), (10, .ex (.int .i64 (↑d : Int))), (82, .ex (.bool true))], [(0, .rowX 3 R)], 1⟩) (obs := [Ob.eq (.ex (.bool (decide ((↑d : Int) > 0)))) (.ex (.bool true)), Ob.eq (.ex (.bool (decide ((↑d : Int) < 16)))) (.ex (.bool true))]) (by kernel_rfl) (by kernel_rfl) ⟨(by simp only [Ob.holds, g1]), (by simp only [Ob.holds, g3]), trivial⟩ ?_
      refine AG.rk 1 [1, 6, 9, 10] [0] 1 (todo' := [.code (sub (codeOf Try.f12) [1, 1, 1, 1, 1, 1, 1, 1, 1, 1, 1, 1, 0, 1, 0]), .code (sub (codeOf Try.f12) [1, 1, 1, 1, 1, 1, 1, 1, 1, 1, 1, 1, 1])]) (st' := ⟨mkT 110 [(1, .ex (.int .i64 (↑n : Int))), (6, .o 0 0 (2 * i)), (9, .ex (.int .i64 (↑(32 * i) : Int))), (10, .ex (.int .i64 (↑d : Int)))], [(0, .rowX 3 R)], 1⟩) (by kernel_rfl) (by kernel_rfl) ?_
      refine AG.gk [5] [] [1, 6, 9, 10] [21] 22 (st' := ⟨mkT 110 [(1, .ex (.int .i64 (↑n : Int))), (6, .o 21 0 (2 * i + 1)), (9, .ex (.int .i64 (↑(32 * i) : Int))), (10, .ex (.int .i64 (↑d : Int)))], [(21, .rowX 3 (R ++ List.take 3 (List.drop 0 [Value.int .i64 6, Value.int .i64 (↑(32 * i) : Int), Value.int .i64 (↑d : Int)])))], 22⟩) (obs := [Ob.le ((2 * i + 1) * 24) 140737488355328, Ob.le (2 * i + 1) 140737488355328, Ob.one [Value.int .i64 6, Value.int .i64 (↑(32 * i) : Int), Value.int .i64 (↑d : Int)], Ob.le (2 * i * 3) (List.length R), Ob.le (List.length R) (2 * i * 3), Ob.le 3 3]) (by kernel_rfl) (by kernel_rfl) ⟨(by (simp only [Ob.holds]; omega)), (by (simp only [Ob.holds]; omega)), (by rfl), (by (simp only [Ob.holds]; omega)), (by (simp only [Ob.holds]; omega)), (Ob.holds_of_dec (by kernel_rfl)), trivial⟩ ?_
      refine AG.rk 2 [1, 6, 9, 10] [21] 22 (todo' := [.code (sub (codeOf Try.f12) [1, 1, 1, 1, 1, 1, 1, 1, 1, 1, 1, 1, 1, 0, 0]), .code (sub (codeOf Try.f12) [1, 1, 1, 1, 1, 1, 1, 1, 1, 1, 1, 1, 1, 0, 1]), .code (sub (codeOf Try.f12) [1, 1, 1, 1, 1, 1, 1, 1, 1, 1, 1, 1, 1, 1])]) (st' := ⟨mkT 110 [(1, .ex (.int .i64 (↑n : Int))), (6, .o 21 0 (2 * i + 1)), (9, .ex (.int .i64 (↑(32 * i) : Int))), (10, .ex (.int .i64 (↑d : Int)))], [(21, .rowX 3 (R ++ List.take 3 (List.drop 0 [Value.int .i64 6, Value.int .i64 (↑(32 * i) : Int), Value.int .i64 (↑d : Int)])))], 22⟩) (by kernel_rfl) (by kernel_rfl) ?_
      refine AG.gk [] [(1, { val := .ex (.bool false) })] [1, 6, 9, 10, 90] [21] 22 (st' := ⟨mkT 110 [(1, .ex (.int .i64 (↑n : Int))), (6, .o 21 0 (2 * i + 1)), (9, .ex (.int .i64 (↑(32 * i) : Int))), (10, .ex (.int .i64 (↑d : Int))), (90, .ex (.bool false))], [(21, .rowX 3 (R ++ List.take 3 (List.drop 0 [Value.int .i64 6, Value.int .i64 (↑(32 * i) : Int), Value.int .i64 (↑d : Int)])))], 22⟩) (obs := [Ob.eq (.ex (.bool (decide ((↑d : Int) ≥ 16)))) (.ex (.bool false))]) (by kernel_rfl) (by kernel_rfl) ⟨(by simp only [Ob.holds, g2]), trivial⟩ ?_
      refine AG.rk 3 [1, 6] [21] 22 (todo' := [.code (sub (codeOf Try.f12) [1, 1, 1, 1, 1, 1, 1, 1, 1, 1, 1, 1, 1, 1, 0]), .code (sub (codeOf Try.f12) [1, 0, 1, 0, 1])]) (st' := ⟨mkT 110 [(1, .ex (.int .i64 (↑n : Int))), (6, .o 21 0 (2 * i + 1))], [(21, .rowX 3 (R ++ List.take 3 (List.drop 0 [Value.int .i64 6, Value.int .i64 (↑(32 * i) : Int), Value.int .i64 (↑d : Int)])))], 22⟩) (by kernel_rfl) (by kernel_rfl) ?_
      refine AG.gk [8] [(2, { val := .ex (.int .i64 (↑(n - 32) : Int)) }), (5, { val := .ex (.int .i64 (↑(n - 16) : Int)) })] [4, 5] [54] 55 (st' := ⟨mkT 110 [(4, .o 54 0 (2 * i + 1 + 2)), (5, .ex (.int .i64 0))], [(54, .rowX 3 (R ++ List.take 3 (List.drop 0 [Value.int .i64 6, Value.int .i64 (↑(32 * i) : Int), Value.int .i64 (↑d : Int)]) ++ List.take 6 (List.drop 0 [Value.int .i64 8, Value.int .i64 (↑(n - 32) : Int), Value.int .i64 16, Value.int .i64 9, Value.int .i64 (↑(n - 16) : Int), Value.int .i64 16])))], 55⟩) (obs := [Ob.eq (.ex (.int .i64 (IntKind.wrap .i64 ((↑n : Int) - 32)))) (.ex (.int .i64 (↑(n - 32) : Int))), Ob.eq (.ex (.int .i64 (IntKind.wrap .i64 ((↑n : Int) - 16)))) (.ex (.int .i64 (↑(n - 16) : Int))), Ob.le ((2 * i + 1 + 2) * 24) 140737488355328, Ob.le (2 * i + 1 + 2) 140737488355328, Ob.one [Value.int .i64 8, Value.int .i64 (↑(n - 32) : Int), Value.int .i64 16, Value.int .i64 9, Value.int .i64 (↑(n - 16) : Int), Value.int .i64 16], Ob.le ((2 * i + 1) * 3) (List.length (R ++ List.take 3 (List.drop 0 [Value.int .i64 6, Value.int .i64 (↑(32 * i) : Int), Value.int .i64 (↑d : Int)]))), Ob.le (List.length (R ++ List.take 3 (List.drop 0 [Value.int .i64 6, Value.int .i64 (↑(32 * i) : Int), Value.int .i64 (↑d : Int)]))) ((2 * i + 1) * 3), Ob.le 6 6]) (by kernel_rfl) (by kernel_rfl) ⟨(by simp only [Ob.holds, m3]), (by simp only [Ob.holds, m5]), (by (simp only [Ob.holds]; omega)), (by (simp only [Ob.holds]; omega)), (by rfl), (by (simp [Ob.holds]; omega)), (by (simp [Ob.holds]; omega)), (Ob.holds_of_dec (by kernel_rfl)), trivial⟩ ?_
      refine AG.ren 54 0 (st' := ⟨mkT 110 [(4, .o 0 0 (2 * i + 1 + 2)), (5, .ex (.int .i64 0))], [(0, .rowX 3 (R ++ List.take 3 (List.drop 0 [Value.int .i64 6, Value.int .i64 (↑(32 * i) : Int), Value.int .i64 (↑d : Int)]) ++ List.take 6 (List.drop 0 [Value.int .i64 8, Value.int .i64 (↑(n - 32) : Int), Value.int .i64 16, Value.int .i64 9, Value.int .i64 (↑(n - 16) : Int), Value.int .i64 16])))], 55⟩) (by kernel_rfl) (by kernel_rfl) ?_
      refine AG.fin ([.o 0 0 (2 * i + 1 + 2), .ex (.int .i64 0)]) Go.Proofs.Try.f12 fn12 (.inr ⟨_, rfl⟩) (obs := []) (by kernel_rfl) trivial (by kernel_rfl) ⟨?_, trivial⟩ (by kernel_rfl)
      refine congrArg (fun z => some (Blk.rowX 3 z)) (?_ : (_ : List Value) = _)
      simp [rc, r1]
    · have g1 : decide ((d : Int) > 0) = true := by simp; omega
      have g3 : decide ((d : Int) < 16) = false := by simp; omega
      have g2 : decide ((d : Int) ≥ 16) = true := by simp; omega
      have g5 : IntKind.i64.wrap ((d : Int) - 16) = ((d - 16 : Nat) : Int) := by rw [wrap64_id _ (by omega) (by omega)]; omega
      have hA : aezL n = pairL i ++ [(6, 32 * i, 16)] ++ [(7, 32 * i + 16, d - 16)] ++ [(8, n - 32, 16)] ++ [(9, n - 16, 16)] := by
        unfold aezL restL
        rw [← hP, ← hd]
        rw [if_neg h0, if_neg h16]
      have hAl : (aezL n).length = 2 * i + 2 + 2 := by rw [hA]; simp [pairL_len]
      have hAc := congrArg rc hA
      simp only [rc_app] at hAc
      rw [hAl, hAc]
      generalize rc (pairL i) = R at *
      refine AG.rk 2 [1, 6, 7] [0] 1 (todo' := [.code (sub (codeOf Try.f12) [1, 1, 1, 1, 1, 1, 1, 1, 1, 1, 0]), .code (sub (codeOf Try.f12) [1, 1, 1, 1, 1, 1, 1, 1, 1, 1, 1])]) (st' := ⟨mkT 110 [(1, .ex (.int .i64 (↑n : Int))), (6, .o 0 0 (2 * i)), (7, .ex (.int .i64 (↑i : Int)))], [(0, .rowX 3 R)], 1⟩) (by kernel_rfl) (by kernel_rfl) ?_
      refine AG.gk [] [(1, { val := .ex (.int .i64 (↑(32 * i) : Int)) })] [1, 6, 9] [0] 1 (st' := ⟨mkT 110 [(1, .ex (.int .i64 (↑n : Int))), (6, .o 0 0 (2 * i)), (9, .ex (.int .i64 (↑(32 * i) : Int)))], [(0, .rowX 3 R)], 1⟩) (obs := [Ob.eq (.ex (.int .i64 (IntKind.wrap .i64 (32 * (↑i : Int))))) (.ex (.int .i64 (↑(32 * i) : Int)))]) (by kernel_rfl) (by kernel_rfl) ⟨(by simp only [Ob.holds, m1]), trivial⟩ ?_
      refine AG.rk 1 [1, 6, 9] [0] 1 (todo' := [.code (sub (codeOf Try.f12) [1, 1, 1, 1, 1, 1, 1, 1, 1, 1, 1, 0]), .code (sub (codeOf Try.f12) [1, 1, 1, 1, 1, 1, 1, 1, 1, 1, 1, 1])]) (st' := ⟨mkT 110 [(1, .ex (.int .i64 (↑n : Int))), (6, .o 0 0 (2 * i)), (9, .ex (.int .i64 (↑(32 * i) : Int)))], [(0, .rowX 3 R)], 1⟩) (by kernel_rfl) (by kernel_rfl) ?_
      refine AG.gk [] [(1, { val := .ex (.int .i64 (↑(n - 32) : Int)) }), (3, { val := .ex (.int .i64 (↑d : Int)) })] [1, 6, 9, 10] [0] 1 (st' := ⟨mkT 110 [(1, .ex (.int .i64 (↑n : Int))), (6, .o 0 0 (2 * i)), (9, .ex (.int .i64 (↑(32 * i) : Int))), (10, .ex (.int .i64 (↑d : Int)))], [(0, .rowX 3 R)], 1⟩) (obs := [Ob.eq (.ex (.int .i64 (IntKind.wrap .i64 ((↑n : Int) - 32)))) (.ex (.int .i64 (↑(n - 32) : Int))), Ob.eq (.ex (.int .i64 (IntKind.wrap .i64 ((↑(n - 32) : Int) - (↑(32 * i) : Int))))) (.ex (.int .i64 (↑d : Int)))]) (by kernel_rfl) (by kernel_rfl) ⟨(by simp only [Ob.holds, m3]), (by simp only [Ob.holds, g4]), trivial⟩ ?_
      refine AG.rk 2 [1, 6, 9, 10] [0] 1 (todo' := [.code (sub (codeOf Try.f12) [1, 1, 1, 1, 1, 1, 1, 1, 1, 1, 1, 1, 0, 0]), .code (sub (codeOf Try.f12) [1, 1, 1, 1, 1, 1, 1, 1, 1, 1, 1, 1, 0, 1]), .code (sub (codeOf Try.f12) [1, 1, 1, 1, 1, 1, 1, 1, 1, 1, 1, 1, 1])]) (st' := ⟨mkT 110 [(1, .ex (.int .i64 (↑n : Int))), (6, .o 0 0 (2 * i)), (9, .ex (.int .i64 (↑(32 * i) : Int))), (10, .ex (.int .i64 (↑d : Int)))], [(0, .rowX 3 R)], 1⟩) (by kernel_rfl) (by kernel_rfl) ?_
      refine AG.gk [] [(1, { val := .ex (.bool true) }), (4, { val := .ex (.bool false) })] [1, 6, 9, 10, 82] [0] 1 (st' := ⟨mkT 110 [(1, .ex (.int .i64 (↑n : Int))), (6, .o 0 0 (2 * i)), (9, .ex (.int .i64 (↑(32 * i) : Int))), (10, .ex (.int .i64 (↑d : Int))), (82, .ex (.bool false))], [(0, .rowX 3 R)], 1⟩) (obs := [Ob.eq (.ex (.bool (decide ((↑d : Int) > 0)))) (.ex (.bool true)), Ob.eq (.ex (.bool (decide ((↑d : Int) < 16)))) (.ex (.bool false))]) (by kernel_rfl) (by kernel_rfl) ⟨(by simp only [Ob.holds, g1]), (by simp only [Ob.holds, g3]), trivial⟩ ?_
      refine AG.rk 4 [1, 6, 9, 10] [0] 1 (todo' := [.code (sub (codeOf Try.f12) [1, 1, 1, 1, 1, 1, 1, 1, 1, 1, 1, 1, 1, 0, 0]), .code (sub (codeOf Try.f12) [1, 1, 1, 1, 1, 1, 1, 1, 1, 1, 1, 1, 1, 0, 1]), .code (sub (codeOf Try.f12) [1, 1, 1, 1, 1, 1, 1, 1, 1, 1, 1, 1, 1, 1])]) (st' := ⟨mkT 110 [(1, .ex (.int .i64 (↑n : Int))), (6, .o 0 0 (2 * i)), (9, .ex (.int .i64 (↑(32 * i) : Int))), (10, .ex (.int .i64 (↑d : Int)))], [(0, .rowX 3 R)], 1⟩) (by kernel_rfl) (by kernel_rfl) ?_
      refine AG.gk [] [(1, { val := .ex (.bool true) })] [1, 6, 9, 10, 90] [0] 1 (st' := ⟨mkT 110 [(1, .ex (.int .i64 (↑n : Int))), (6, .o 0 0 (2 * i)), (9, .ex (.int .i64 (↑(32 * i) : Int))), (10, .ex (.int .i64 (↑d : Int))), (90, .ex (.bool true))], [(0, .rowX 3 R)], 1⟩) (obs := [Ob.eq (.ex (.bool (decide ((↑d : Int) ≥ 16)))) (.ex (.bool true))]) (by kernel_rfl) (by kernel_rfl) ⟨(by simp only [Ob.holds, g2]), trivial⟩ ?_
      refine AG.rk 1 [1, 6, 9, 10] [0] 1 (todo' := [.code (sub (codeOf Try.f12) [1, 1, 1, 1, 1, 1, 1, 1, 1, 1, 1, 1, 1, 0, 1, 0]), .code (sub (codeOf Try.f12) [1, 1, 1, 1, 1, 1, 1, 1, 1, 1, 1, 1, 1, 1])]) (st' := ⟨mkT 110 [(1, .ex (.int .i64 (↑n : Int))), (6, .o 0 0 (2 * i)), (9, .ex (.int .i64 (↑(32 * i) : Int))), (10, .ex (.int .i64 (↑d : Int)))], [(0, .rowX 3 R)], 1⟩) (by kernel_rfl) (by kernel_rfl) ?_
      refine AG.gk [9] [(4, { val := .ex (.int .i64 (↑(32 * i + 16) : Int)) }), (6, { val := .ex (.int .i64 (↑(d - 16) : Int)) })] [1, 6] [37] 38 (st' := ⟨mkT 110 [(1, .ex (.int .i64 (↑n : Int))), (6, .o 37 0 (2 * i + 2))], [(37, .rowX 3 (R ++ List.take 6 (List.drop 0 [Value.int .i64 6, Value.int .i64 (↑(32 * i) : Int), Value.int .i64 16, Value.int .i64 7, Value.int .i64 (↑(32 * i + 16) : Int), Value.int .i64 (↑(d - 16) : Int)])))], 38⟩) (obs := [Ob.eq (.ex (.int .i64 (IntKind.wrap .i64 ((↑(32 * i) : Int) + 16)))) (.ex (.int .i64 (↑(32 * i + 16) : Int))), Ob.eq (.ex (.int .i64 (IntKind.wrap .i64 ((↑d : Int) - 16)))) (.ex (.int .i64 (↑(d - 16) : Int))), Ob.le ((2 * i + 2) * 24) 140737488355328, Ob.le (2 * i + 2) 140737488355328, Ob.one [Value.int .i64 6, Value.int .i64 (↑(32 * i) : Int), Value.int .i64 16, Value.int .i64 7, Value.int .i64 (↑(32 * i + 16) : Int), Value.int .i64 (↑(d - 16) : Int)], Ob.le (2 * i * 3) (List.length R), Ob.le (List.length R) (2 * i * 3), Ob.le 6 6]) (by kernel_rfl) (by kernel_rfl) ⟨(by simp only [Ob.holds, m2]), (by simp only [Ob.holds, g5]), (by (simp only [Ob.holds]; omega)), (by (simp only [Ob.holds]; omega)), (by rfl), (by (simp only [Ob.holds]; omega)), (by (simp only [Ob.holds]; omega)), (Ob.holds_of_dec (by kernel_rfl)), trivial⟩ ?_
      refine AG.rk 1 [1, 6] [37] 38 (todo' := [.code (sub (codeOf Try.f12) [1, 1, 1, 1, 1, 1, 1, 1, 1, 1, 1, 1, 1, 1, 0]), .code (sub (codeOf Try.f12) [1, 0, 1, 0, 1])]) (st' := ⟨mkT 110 [(1, .ex (.int .i64 (↑n : Int))), (6, .o 37 0 (2 * i + 2))], [(37, .rowX 3 (R ++ List.take 6 (List.drop 0 [Value.int .i64 6, Value.int .i64 (↑(32 * i) : Int), Value.int .i64 16, Value.int .i64 7, Value.int .i64 (↑(32 * i + 16) : Int), Value.int .i64 (↑(d - 16) : Int)])))], 38⟩) (by kernel_rfl) (by kernel_rfl) ?_
      refine AG.gk [8] [(2, { val := .ex (.int .i64 (↑(n - 32) : Int)) }), (5, { val := .ex (.int .i64 (↑(n - 16) : Int)) })] [4, 5] [70] 71 (st' := ⟨mkT 110 [(4, .o 70 0 (2 * i + 2 + 2)), (5, .ex (.int .i64 0))], [(70, .rowX 3 (R ++ List.take 6 (List.drop 0 [Value.int .i64 6, Value.int .i64 (↑(32 * i) : Int), Value.int .i64 16, Value.int .i64 7, Value.int .i64 (↑(32 * i + 16) : Int), Value.int .i64 (↑(d - 16) : Int)]) ++ List.take 6 (List.drop 0 [Value.int .i64 8, Value.int .i64 (↑(n - 32) : Int), Value.int .i64 16, Value.int .i64 9, Value.int .i64 (↑(n - 16) : Int), Value.int .i64 16])))], 71⟩) (obs := [Ob.eq (.ex (.int .i64 (IntKind.wrap .i64 ((↑n : Int) - 32)))) (.ex (.int .i64 (↑(n - 32) : Int))), Ob.eq (.ex (.int .i64 (IntKind.wrap .i64 ((↑n : Int) - 16)))) (.ex (.int .i64 (↑(n - 16) : Int))), Ob.le ((2 * i + 2 + 2) * 24) 140737488355328, Ob.le (2 * i + 2 + 2) 140737488355328, Ob.one [Value.int .i64 8, Value.int .i64 (↑(n - 32) : Int), Value.int .i64 16, Value.int .i64 9, Value.int .i64 (↑(n - 16) : Int), Value.int .i64 16], Ob.le ((2 * i + 2) * 3) (List.length (R ++ List.take 6 (List.drop 0 [Value.int .i64 6, Value.int .i64 (↑(32 * i) : Int), Value.int .i64 16, Value.int .i64 7, Value.int .i64 (↑(32 * i + 16) : Int), Value.int .i64 (↑(d - 16) : Int)]))), Ob.le (List.length (R ++ List.take 6 (List.drop 0 [Value.int .i64 6, Value.int .i64 (↑(32 * i) : Int), Value.int .i64 16, Value.int .i64 7, Value.int .i64 (↑(32 * i + 16) : Int), Value.int .i64 (↑(d - 16) : Int)]))) ((2 * i + 2) * 3), Ob.le 6 6]) (by kernel_rfl) (by kernel_rfl) ⟨(by simp only [Ob.holds, m3]), (by simp only [Ob.holds, m5]), (by (simp only [Ob.holds]; omega)), (by (simp only [Ob.holds]; omega)), (by rfl), (by (simp [Ob.holds]; omega)), (by (simp [Ob.holds]; omega)), (Ob.holds_of_dec (by kernel_rfl)), trivial⟩ ?_
      refine AG.ren 70 0 (st' := ⟨mkT 110 [(4, .o 0 0 (2 * i + 2 + 2)), (5, .ex (.int .i64 0))], [(0, .rowX 3 (R ++ List.take 6 (List.drop 0 [Value.int .i64 6, Value.int .i64 (↑(32 * i) : Int), Value.int .i64 16, Value.int .i64 7, Value.int .i64 (↑(32 * i + 16) : Int), Value.int .i64 (↑(d - 16) : Int)]) ++ List.take 6 (List.drop 0 [Value.int .i64 8, Value.int .i64 (↑(n - 32) : Int), Value.int .i64 16, Value.int .i64 9, Value.int .i64 (↑(n - 16) : Int), Value.int .i64 16])))], 71⟩) (by kernel_rfl) (by kernel_rfl) ?_
      refine AG.fin ([.o 0 0 (2 * i + 2 + 2), .ex (.int .i64 0)]) Go.Proofs.Try.f12 fn12 (.inr ⟨_, rfl⟩) (obs := []) (by kernel_rfl) trivial (by kernel_rfl) ⟨?_, trivial⟩ (by kernel_rfl)
      refine congrArg (fun z => some (Blk.rowX 3 z)) (?_ : (_ : List Value) = _)
      simp [rc, r1]
end Go.Proofs.Ytngmlkkcjjfiaaa.Ab
