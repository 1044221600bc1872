/- Own: the law CutCovers followed (no statement is proved here). -/
import Derived.Test.YtngmlkkcjjfiaaaF9
import Derived.KernelRfl
namespace Go.Proofs.Ytngmlkkcjjfiaaa.Ab
open Go.Proofs
set_option linter.unusedSimpArgs false
set_option linter.unusedVariables false
set_option maxRecDepth 4000
theorem fn6 : Try.prog.funcs[6]? = some Try.f6 := by kernel_rfl
/-- How much lies ahead of a part. -/
def off : List (Nat × Nat × Nat) → Nat → Nat
  | [], _ => 0
  | _ :: _, 0 => 0
  | p :: l, i + 1 => p.2.2 + off l i
def tot (L : List (Nat × Nat × Nat)) : Nat := off L L.length
/-- The parts stand side by side. -/
def sbs (L : List (Nat × Nat × Nat)) : Prop := ∀ (i : Nat) (p : Nat × Nat × Nat), L[i]? = some p → p.2.1 = off L i
theorem off_zero (L : List (Nat × Nat × Nat)) : off L 0 = 0 := by cases L <;> rfl
theorem off_app : ∀ (L M : List (Nat × Nat × Nat)) (i : Nat), i ≤ L.length → off (L ++ M) i = off L i
  | [], M, i, h => by
    have hi : i = 0 := by simpa using h
    rw [hi, off_zero]; rfl
  | p :: l, M, 0, h => rfl
  | p :: l, M, i + 1, h => by show p.2.2 + off (l ++ M) i = p.2.2 + off l i; rw [off_app l M i (by simpa using h)]
theorem off_succ : ∀ (L : List (Nat × Nat × Nat)) (i : Nat) (p : Nat × Nat × Nat), L[i]? = some p → off L (i + 1) = off L i + p.2.2
  | [], i, p, h => by simp at h
  | q :: l, 0, p, h => by
    simp at h; subst h
    show q.2.2 + off l 0 = 0 + q.2.2
    rw [off_zero]; omega
  | q :: l, i + 1, p, h => by
    simp at h
    show q.2.2 + off l (i + 1) = q.2.2 + off l i + p.2.2
    rw [off_succ l i p h]; omega
theorem tot_app (L : List (Nat × Nat × Nat)) (k a s : Nat) : tot (L ++ [(k, a, s)]) = tot L + s := by
  unfold tot
  rw [List.length_append, show [(k, a, s)].length = 1 from rfl, off_succ (L ++ [(k, a, s)]) L.length (k, a, s) (by simp), off_app L _ _ (Nat.le_refl _)]
theorem sbs_app {L : List (Nat × Nat × Nat)} (h : sbs L) (k a s : Nat) (ha : a = tot L) : sbs (L ++ [(k, a, s)]) := by
  intro i p hp
  by_cases hi : i < L.length
  · rw [List.getElem?_append_left hi] at hp
    rw [off_app _ _ _ (by omega)]
    exact h i p hp
  · have hl := (List.getElem?_eq_some_iff.1 hp).1
    have : i = L.length := by simp at hl; omega
    subst this
    simp at hp
    subst hp
    rw [off_app _ _ _ (Nat.le_refl _)]
    exact ha
theorem sbs_nil : sbs [] := fun i p h => by simp at h
theorem pair_sbs : ∀ m, sbs (pairL m) ∧ tot (pairL m) = 32 * m
  | 0 => ⟨sbs_nil, rfl⟩
  | m + 1 => by
    obtain ⟨h1, h2⟩ := pair_sbs m
    have e1 : tot (pairL m ++ [(4, 32 * m, 16)]) = 32 * m + 16 := by rw [tot_app, h2]
    refine ⟨sbs_app (sbs_app h1 4 (32 * m) 16 h2.symm) 5 (32 * m + 16) 16 e1.symm, ?_⟩
    show tot (pairL m ++ [(4, 32 * m, 16)] ++ [(5, 32 * m + 16, 16)]) = _
    rw [tot_app, e1]; omega
theorem aez_sbs (n : Nat) (h : 32 ≤ n) : sbs (aezL n) ∧ tot (aezL n) = n := by
  obtain ⟨h1, h2⟩ := pair_sbs ((n - 32) / 32)
  have hd : n - 32 = 32 * ((n - 32) / 32) + (n - 32) % 32 := by omega
  unfold aezL
  generalize (n - 32) / 32 = P at *
  generalize hdd : (n - 32) % 32 = d at *
  have hd32 : d < 32 := by omega
  have key : ∀ L, sbs L → tot L = n - 32 → sbs (L ++ [(8, n - 32, 16)] ++ [(9, n - 16, 16)]) ∧ tot (L ++ [(8, n - 32, 16)] ++ [(9, n - 16, 16)]) = n := fun L hs ht => by
    have e1 : tot (L ++ [(8, n - 32, 16)]) = n - 16 := by rw [tot_app, ht]; omega
    refine ⟨sbs_app (sbs_app hs _ _ _ ht.symm) _ _ _ e1.symm, ?_⟩
    rw [tot_app, e1]; omega
  unfold restL
  by_cases h0 : d = 0
  · rw [if_pos h0]; exact key _ h1 (by omega)
  rw [if_neg h0]
  by_cases h16 : d < 16
  · rw [if_pos h16]; exact key _ (sbs_app h1 _ _ _ h2.symm) (by rw [tot_app]; omega)
  · rw [if_neg h16]
    have e1 : tot (pairL P ++ [(6, 32 * P, 16)]) = 32 * P + 16 := by rw [tot_app, h2]
    exact key _ (sbs_app (sbs_app h1 _ _ _ h2.symm) _ _ _ e1.symm) (by rw [tot_app, e1]; omega)
theorem aez_kind (n : Nat) : ∀ p ∈ aezL n, p.1 ≠ 10 := by
  have hP : ∀ m, ∀ p ∈ pairL m, p.1 ≠ 10 := fun m => by
    induction m with
    | zero => intro p hp; simp [pairL] at hp
    | succ m ih =>
      intro p hp
      simp only [pairL, List.mem_append, List.mem_singleton] at hp
      rcases hp with (hp | rfl) | rfl
      · exact ih p hp
      · simp
      · simp
  intro p hp
  unfold aezL restL at hp
  simp only [List.mem_append, List.mem_singleton] at hp
  rcases hp with (hp | rfl) | rfl
  · split at hp
    · exact hP _ p hp
    · split at hp
      · simp only [List.mem_append, List.mem_singleton] at hp
        rcases hp with hp | rfl
        · exact hP _ p hp
        · simp
      · simp only [List.mem_append, List.mem_singleton] at hp
        rcases hp with (hp | rfl) | rfl
        · exact hP _ p hp
        · simp
        · simp
  · simp
  · simp
/-- What is all: twice as much behind a Front. -/
def allAt (n : Nat) : List (Nat × Nat × Nat) → Nat → Nat
  | [], _ => n
  | _ :: _, 0 => n
  | p :: l, i + 1 => if p.1 = 10 then 2 * n else allAt n l i
theorem allAt_zero (n : Nat) (L : List (Nat × Nat × Nat)) : allAt n L 0 = n := by cases L <;> rfl
theorem allAt_no (n : Nat) : ∀ (L : List (Nat × Nat × Nat)) (i : Nat), (∀ p ∈ L, p.1 ≠ 10) → allAt n L i = n
  | [], _, _ => rfl
  | _ :: _, 0, _ => rfl
  | p :: l, i + 1, h => by
    show (if p.1 = 10 then 2 * n else allAt n l i) = n
    rw [if_neg (h p (by simp)), allAt_no n l i fun q hq => h q (by simp [hq])]
theorem allAt_succ (n : Nat) : ∀ (L : List (Nat × Nat × Nat)) (i : Nat) (p : Nat × Nat × Nat), L[i]? = some p → allAt n L (i + 1) = if p.1 = 10 then 2 * n else allAt n L i
  | [], i, p, h => by simp at h
  | q :: l, 0, p, h => by
    simp at h; subst h
    show (if q.1 = 10 then 2 * n else allAt n l 0) = _
    rw [allAt_zero]; rfl
  | q :: l, i + 1, p, h => by
    simp at h
    show (if q.1 = 10 then 2 * n else allAt n l (i + 1)) = if p.1 = 10 then 2 * n else (if q.1 = 10 then 2 * n else allAt n l i)
    rw [allAt_succ n l i p h]
    split <;> split <;> rfl
theorem allAt_le (n : Nat) : ∀ (L : List (Nat × Nat × Nat)) (i : Nat), allAt n L i ≤ 2 * n
  | [], _ => by show n ≤ _; omega
  | _ :: _, 0 => by show n ≤ _; omega
  | p :: l, i + 1 => by
    show (if p.1 = 10 then 2 * n else allAt n l i) ≤ _
    split
    · exact Nat.le_refl _
    · exact allAt_le n l i
theorem part_sbs (alg n : Nat) (ha : alg = 1 ∨ alg = 2 ∨ alg = 3) (h1 : 1 ≤ n) (h16 : alg ≠ 3 → 16 ≤ n) : sbs (partL alg n) ∧ tot (partL alg n) = allAt n (partL alg n) (partL alg n).length := by
  unfold partL
  by_cases a1 : alg = 1
  · rw [if_pos a1]
    refine ⟨sbs_app (sbs_app sbs_nil 1 0 (n - 16) rfl) 2 (n - 16) 16 ?_, ?_⟩
    · show n - 16 = (n - 16) + 0; omega
    · show (n - 16) + (16 + 0) = n; omega
  rw [if_neg a1]
  by_cases a2 : alg = 2
  · rw [if_pos a2]
    refine ⟨sbs_app (sbs_app sbs_nil 3 0 16 rfl) 1 16 (n - 16) rfl, ?_⟩
    show 16 + ((n - 16) + 0) = n; omega
  rw [if_neg a2]
  by_cases h32 : n < 32
  · rw [if_pos h32]
    refine ⟨sbs_app (sbs_app sbs_nil 10 0 n rfl) 11 n n ?_, ?_⟩
    · show n = n + 0; rfl
    · show n + (n + 0) = 2 * n; omega
  · rw [if_neg h32, allAt_no n _ _ (aez_kind n)]
    exact aez_sbs n (by omega)
theorem part_len (alg n : Nat) (hn : n ≤ 65536) : (partL alg n).length ≤ 5000 := by
  unfold partL
  split
  · simp
  · split
    · simp
    · split
      · simp
      · exact aez_len n hn
theorem part_all (alg n : Nat) (hn : n ≤ 65536) : ∀ p ∈ partL alg n, p.2.1 ≤ 70000 ∧ p.2.2 ≤ 70000 := by
  intro p hp
  unfold partL at hp
  split at hp
  · simp at hp; rcases hp with rfl | rfl <;> simp <;> omega
  · split at hp
    · simp at hp; rcases hp with rfl | rfl <;> simp <;> omega
    · split at hp
      · simp at hp; rcases hp with rfl | rfl <;> simp <;> omega
      · exact aez_all n (by omega) hn p hp
theorem covers_ok (alg n : Int) (hi : -9223372036854775808 ≤ n ∧ n ≤ 9223372036854775807) : CallOK Try.prog (fun _ => none) 6 [.ex (.int .i64 alg), .ex (.int .i64 n)] [] { val := .ex (.bool true) } := by
  by_cases h3000 : n > 3000
  · have g1 : decide (n > 3000) = true := by simp; omega
    refine CallOK.from0 hmix Try.f6 0 fn6 (by kernel_rfl) (by kernel_rfl) (fun w ρ h1 h2 => ?_)
    refine AG.rk 4 [0, 1] [] 0 (todo' := [.code (sub (codeOf Try.f6) [1, 0, 0]), .code (sub (codeOf Try.f6) [1, 0, 1]), .code (sub (codeOf Try.f6) [1, 1])]) (st' := ⟨mkT 85 [(0, .ex (.int .i64 alg)), (1, .ex (.int .i64 n))], [], 0⟩) (by kernel_rfl) (by kernel_rfl) ?_
    refine AG.gk [] [(1, { val := .ex (.bool true) })] [0, 1, 11] [] 0 (st' := ⟨mkT 85 [(0, .ex (.int .i64 alg)), (1, .ex (.int .i64 n)), (11, .ex (.bool true))], [], 0⟩) (obs := [Ob.eq (.ex (.bool (decide (n > 3000)))) (.ex (.bool true))]) (by kernel_rfl) (by kernel_rfl) ⟨(by simp only [Ob.holds, g1]), trivial⟩ ?_
    refine AG.rk 3 [4] [] 0 (todo' := [.code (sub (codeOf Try.f6) [1, 0, 1, 0, 1]), .code (sub (codeOf Try.f6) [1, 1])]) (st' := ⟨mkT 85 [(4, .ex (.bool true))], [], 0⟩) (by kernel_rfl) (by kernel_rfl) ?_
    refine AG.fin ([.ex (.bool true)]) Go.Proofs.Try.f6 fn6 (.inr ⟨_, rfl⟩) (obs := []) (by kernel_rfl) trivial (by kernel_rfl) trivial (by kernel_rfl)
  have g1 : decide (n > 3000) = false := by simp; omega
  by_cases hr : refC alg n = 0
  case neg =>
    have c1 := partsno_ok alg n hr
    have hcase : alg < 1 ∨ alg > 3 ∨ n < 16 := by
      unfold refC at hr
      by_cases a1 : alg = 1 ∨ alg = 2
      · rw [if_pos a1] at hr
        by_cases h16 : n < 16
        · omega
        · rw [if_neg h16, if_neg (by omega)] at hr; exact absurd rfl hr
      · rw [if_neg a1] at hr
        by_cases a3 : alg = 3
        · rw [if_pos a3] at hr
          by_cases h16 : n < 1
          · omega
          · rw [if_neg h16, if_neg (by omega)] at hr; exact absurd rfl hr
        · omega
    have g2 : (refC alg n != 0) = true := by simp; omega
    generalize refC alg n = e at *
    by_cases k1 : alg < 1
    · have q1 : decide (alg < 1) = true := by simp; omega
      refine CallOK.from0 hmix Try.f6 0 fn6 (by kernel_rfl) (by kernel_rfl) (fun w ρ h1 h2 => ?_)
      refine AG.rk 4 [0, 1] [] 0 (todo' := [.code (sub (codeOf Try.f6) [1, 0, 0]), .code (sub (codeOf Try.f6) [1, 0, 1]), .code (sub (codeOf Try.f6) [1, 1])]) (st' := ⟨mkT 85 [(0, .ex (.int .i64 alg)), (1, .ex (.int .i64 n))], [], 0⟩) (by kernel_rfl) (by kernel_rfl) ?_
      refine AG.gk [] [(1, { val := .ex (.bool false) })] [0, 1, 11] [] 0 (st' := ⟨mkT 85 [(0, .ex (.int .i64 alg)), (1, .ex (.int .i64 n)), (11, .ex (.bool false))], [], 0⟩) (obs := [Ob.eq (.ex (.bool (decide (n > 3000)))) (.ex (.bool false))]) (by kernel_rfl) (by kernel_rfl) ⟨(by simp only [Ob.holds, g1]), trivial⟩ ?_
      refine AG.rk 3 [0, 1] [] 0 (todo' := [.code (sub (codeOf Try.f6) [1, 1, 0]), .code (sub (codeOf Try.f6) [1, 1, 1])]) (st' := ⟨mkT 85 [(0, .ex (.int .i64 alg)), (1, .ex (.int .i64 n))], [], 0⟩) (by kernel_rfl) (by kernel_rfl) ?_
      refine AG.gk [] [(2, { val := .tup [.ex (.slice none 0 0), .ex (.int .i64 e)] })] [0, 1, 5, 6] [] 0 (st' := ⟨mkT 85 [(0, .ex (.int .i64 alg)), (1, .ex (.int .i64 n)), (5, .ex (.slice none 0 0)), (6, .ex (.int .i64 e))], [], 0⟩) (obs := [Ob.call (fun g => List.lookup g []) 11 [.ex (.int .i64 alg), .ex (.int .i64 n)] [] { val := .tup [.ex (.slice none 0 0), .ex (.int .i64 e)] }]) (by kernel_rfl) (by kernel_rfl) ⟨((c1 ).gl), trivial⟩ ?_
      refine AG.rk 2 [0, 1, 5, 6] [] 0 (todo' := [.code (sub (codeOf Try.f6) [1, 1, 1, 0, 0]), .code (sub (codeOf Try.f6) [1, 1, 1, 0, 1]), .code (sub (codeOf Try.f6) [1, 1, 1, 1])]) (st' := ⟨mkT 85 [(0, .ex (.int .i64 alg)), (1, .ex (.int .i64 n)), (5, .ex (.slice none 0 0)), (6, .ex (.int .i64 e))], [], 0⟩) (by kernel_rfl) (by kernel_rfl) ?_
      refine AG.gk [] [(1, { val := .ex (.bool true) })] [0, 1, 5, 19] [] 0 (st' := ⟨mkT 85 [(0, .ex (.int .i64 alg)), (1, .ex (.int .i64 n)), (5, .ex (.slice none 0 0)), (19, .ex (.bool true))], [], 0⟩) (obs := [Ob.eq (.ex (.bool (e != 0))) (.ex (.bool true))]) (by kernel_rfl) (by kernel_rfl) ⟨(by simp only [Ob.holds, g2]), trivial⟩ ?_
      refine AG.rk 2 [0, 1, 5] [] 0 (todo' := [.code (sub (codeOf Try.f6) [1, 1, 1, 0, 1, 0, 0]), .code (sub (codeOf Try.f6) [1, 0, 1, 0, 1]), .code (sub (codeOf Try.f6) [1, 1, 1, 1])]) (st' := ⟨mkT 85 [(0, .ex (.int .i64 alg)), (1, .ex (.int .i64 n)), (5, .ex (.slice none 0 0))], [], 0⟩) (by kernel_rfl) (by kernel_rfl) ?_
      refine AG.gk [] [(5, { val := .ex (.bool true) }), (16, { val := .ex (.bool true) })] [4] [] 0 (st' := ⟨mkT 85 [(4, .ex (.bool true))], [], 0⟩) (obs := [Ob.eq (.ex (.bool (decide (alg < 1)))) (.ex (.bool true)), Ob.call (fun g => List.lookup g []) 13 [] [] { val := .ex (.bool true) }]) (by kernel_rfl) (by kernel_rfl) ⟨(by simp only [Ob.holds, q1]), ((Go.Proofs.Ytngmlkkcjjfiaaa.Ab.awake_ok ).gl), trivial⟩ ?_
      refine AG.fin ([.ex (.bool true)]) Go.Proofs.Try.f6 fn6 (.inr ⟨_, rfl⟩) (obs := []) (by kernel_rfl) trivial (by kernel_rfl) trivial (by kernel_rfl)
    have q1 : decide (alg < 1) = false := by simp; omega
    by_cases k2 : alg > 3
    · have q2 : decide (alg > 3) = true := by simp; omega
      refine CallOK.from0 hmix Try.f6 0 fn6 (by kernel_rfl) (by kernel_rfl) (fun w ρ h1 h2 => ?_)
      refine AG.rk 4 [0, 1] [] 0 (todo' := [.code (sub (codeOf Try.f6) [1, 0, 0]), .code (sub (codeOf Try.f6) [1, 0, 1]), .code (sub (codeOf Try.f6) [1, 1])]) (st' := ⟨mkT 85 [(0, .ex (.int .i64 alg)), (1, .ex (.int .i64 n))], [], 0⟩) (by kernel_rfl) (by kernel_rfl) ?_
      refine AG.gk [] [(1, { val := .ex (.bool false) })] [0, 1, 11] [] 0 (st' := ⟨mkT 85 [(0, .ex (.int .i64 alg)), (1, .ex (.int .i64 n)), (11, .ex (.bool false))], [], 0⟩) (obs := [Ob.eq (.ex (.bool (decide (n > 3000)))) (.ex (.bool false))]) (by kernel_rfl) (by kernel_rfl) ⟨(by simp only [Ob.holds, g1]), trivial⟩ ?_
      refine AG.rk 3 [0, 1] [] 0 (todo' := [.code (sub (codeOf Try.f6) [1, 1, 0]), .code (sub (codeOf Try.f6) [1, 1, 1])]) (st' := ⟨mkT 85 [(0, .ex (.int .i64 alg)), (1, .ex (.int .i64 n))], [], 0⟩) (by kernel_rfl) (by kernel_rfl) ?_
      refine AG.gk [] [(2, { val := .tup [.ex (.slice none 0 0), .ex (.int .i64 e)] })] [0, 1, 5, 6] [] 0 (st' := ⟨mkT 85 [(0, .ex (.int .i64 alg)), (1, .ex (.int .i64 n)), (5, .ex (.slice none 0 0)), (6, .ex (.int .i64 e))], [], 0⟩) (obs := [Ob.call (fun g => List.lookup g []) 11 [.ex (.int .i64 alg), .ex (.int .i64 n)] [] { val := .tup [.ex (.slice none 0 0), .ex (.int .i64 e)] }]) (by kernel_rfl) (by kernel_rfl) ⟨((c1 ).gl), trivial⟩ ?_
      refine AG.rk 2 [0, 1, 5, 6] [] 0 (todo' := [.code (sub (codeOf Try.f6) [1, 1, 1, 0, 0]), .code (sub (codeOf Try.f6) [1, 1, 1, 0, 1]), .code (sub (codeOf Try.f6) [1, 1, 1, 1])]) (st' := ⟨mkT 85 [(0, .ex (.int .i64 alg)), (1, .ex (.int .i64 n)), (5, .ex (.slice none 0 0)), (6, .ex (.int .i64 e))], [], 0⟩) (by kernel_rfl) (by kernel_rfl) ?_
      refine AG.gk [] [(1, { val := .ex (.bool true) })] [0, 1, 5, 19] [] 0 (st' := ⟨mkT 85 [(0, .ex (.int .i64 alg)), (1, .ex (.int .i64 n)), (5, .ex (.slice none 0 0)), (19, .ex (.bool true))], [], 0⟩) (obs := [Ob.eq (.ex (.bool (e != 0))) (.ex (.bool true))]) (by kernel_rfl) (by kernel_rfl) ⟨(by simp only [Ob.holds, g2]), trivial⟩ ?_
      refine AG.rk 2 [0, 1, 5] [] 0 (todo' := [.code (sub (codeOf Try.f6) [1, 1, 1, 0, 1, 0, 0]), .code (sub (codeOf Try.f6) [1, 0, 1, 0, 1]), .code (sub (codeOf Try.f6) [1, 1, 1, 1])]) (st' := ⟨mkT 85 [(0, .ex (.int .i64 alg)), (1, .ex (.int .i64 n)), (5, .ex (.slice none 0 0))], [], 0⟩) (by kernel_rfl) (by kernel_rfl) ?_
      refine AG.gk [] [(5, { val := .ex (.bool false) }), (8, { val := .ex (.bool true) }), (16, { val := .ex (.bool true) })] [4] [] 0 (st' := ⟨mkT 85 [(4, .ex (.bool true))], [], 0⟩) (obs := [Ob.eq (.ex (.bool (decide (alg < 1)))) (.ex (.bool false)), Ob.eq (.ex (.bool (decide (alg > 3)))) (.ex (.bool true)), Ob.call (fun g => List.lookup g []) 13 [] [] { val := .ex (.bool true) }]) (by kernel_rfl) (by kernel_rfl) ⟨(by simp only [Ob.holds, q1]), (by simp only [Ob.holds, q2]), ((Go.Proofs.Ytngmlkkcjjfiaaa.Ab.awake_ok ).gl), trivial⟩ ?_
      refine AG.fin ([.ex (.bool true)]) Go.Proofs.Try.f6 fn6 (.inr ⟨_, rfl⟩) (obs := []) (by kernel_rfl) trivial (by kernel_rfl) trivial (by kernel_rfl)
    have q2 : decide (alg > 3) = false := by simp; omega
    have q3 : decide (n < 16) = true := by simp; omega
    refine CallOK.from0 hmix Try.f6 0 fn6 (by kernel_rfl) (by kernel_rfl) (fun w ρ h1 h2 => ?_)
    refine AG.rk 4 [0, 1] [] 0 (todo' := [.code (sub (codeOf Try.f6) [1, 0, 0]), .code (sub (codeOf Try.f6) [1, 0, 1]), .code (sub (codeOf Try.f6) [1, 1])]) (st' := ⟨mkT 85 [(0, .ex (.int .i64 alg)), (1, .ex (.int .i64 n))], [], 0⟩) (by kernel_rfl) (by kernel_rfl) ?_
    refine AG.gk [] [(1, { val := .ex (.bool false) })] [0, 1, 11] [] 0 (st' := ⟨mkT 85 [(0, .ex (.int .i64 alg)), (1, .ex (.int .i64 n)), (11, .ex (.bool false))], [], 0⟩) (obs := [Ob.eq (.ex (.bool (decide (n > 3000)))) (.ex (.bool false))]) (by kernel_rfl) (by kernel_rfl) ⟨(by simp only [Ob.holds, g1]), trivial⟩ ?_
    refine AG.rk 3 [0, 1] [] 0 (todo' := [.code (sub (codeOf Try.f6) [1, 1, 0]), .code (sub (codeOf Try.f6) [1, 1, 1])]) (st' := ⟨mkT 85 [(0, .ex (.int .i64 alg)), (1, .ex (.int .i64 n))], [], 0⟩) (by kernel_rfl) (by kernel_rfl) ?_
    refine AG.gk [] [(2, { val := .tup [.ex (.slice none 0 0), .ex (.int .i64 e)] })] [0, 1, 5, 6] [] 0 (st' := ⟨mkT 85 [(0, .ex (.int .i64 alg)), (1, .ex (.int .i64 n)), (5, .ex (.slice none 0 0)), (6, .ex (.int .i64 e))], [], 0⟩) (obs := [Ob.call (fun g => List.lookup g []) 11 [.ex (.int .i64 alg), .ex (.int .i64 n)] [] { val := .tup [.ex (.slice none 0 0), .ex (.int .i64 e)] }]) (by kernel_rfl) (by kernel_rfl) ⟨((c1 ).gl), trivial⟩ ?_
    refine AG.rk 2 [0, 1, 5, 6] [] 0 (todo' := [.code (sub (codeOf Try.f6) [1, 1, 1, 0, 0]), .code (sub (codeOf Try.f6) [1, 1, 1, 0, 1]), .code (sub (codeOf Try.f6) [1, 1, 1, 1])]) (st' := ⟨mkT 85 [(0, .ex (.int .i64 alg)), (1, .ex (.int .i64 n)), (5, .ex (.slice none 0 0)), (6, .ex (.int .i64 e))], [], 0⟩) (by kernel_rfl) (by kernel_rfl) ?_
    refine AG.gk [] [(1, { val := .ex (.bool true) })] [0, 1, 5, 19] [] 0 (st' := ⟨mkT 85 [(0, .ex (.int .i64 alg)), (1, .ex (.int .i64 n)), (5, .ex (.slice none 0 0)), (19, .ex (.bool true))], [], 0⟩) (obs := [Ob.eq (.ex (.bool (e != 0))) (.ex (.bool true))]) (by kernel_rfl) (by kernel_rfl) ⟨(by simp only [Ob.holds, g2]), trivial⟩ ?_
    refine AG.rk 2 [0, 1, 5] [] 0 (todo' := [.code (sub (codeOf Try.f6) [1, 1, 1, 0, 1, 0, 0]), .code (sub (codeOf Try.f6) [1, 0, 1, 0, 1]), .code (sub (codeOf Try.f6) [1, 1, 1, 1])]) (st' := ⟨mkT 85 [(0, .ex (.int .i64 alg)), (1, .ex (.int .i64 n)), (5, .ex (.slice none 0 0))], [], 0⟩) (by kernel_rfl) (by kernel_rfl) ?_
    refine AG.gk [] [(5, { val := .ex (.bool false) }), (8, { val := .ex (.bool false) }), (12, { val := .ex (.bool true) }), (16, { val := .ex (.bool true) })] [4] [] 0 (st' := ⟨mkT 85 [(4, .ex (.bool true))], [], 0⟩) (obs := [Ob.eq (.ex (.bool (decide (alg < 1)))) (.ex (.bool false)), Ob.eq (.ex (.bool (decide (alg > 3)))) (.ex (.bool false)), Ob.eq (.ex (.bool (decide (n < 16)))) (.ex (.bool true)), Ob.call (fun g => List.lookup g []) 13 [] [] { val := .ex (.bool true) }]) (by kernel_rfl) (by kernel_rfl) ⟨(by simp only [Ob.holds, q1]), (by simp only [Ob.holds, q2]), (by simp only [Ob.holds, q3]), ((Go.Proofs.Ytngmlkkcjjfiaaa.Ab.awake_ok ).gl), trivial⟩ ?_
    refine AG.fin ([.ex (.bool true)]) Go.Proofs.Try.f6 fn6 (.inr ⟨_, rfl⟩) (obs := []) (by kernel_rfl) trivial (by kernel_rfl) trivial (by kernel_rfl)
  have hA : alg = 1 ∨ alg = 2 ∨ alg = 3 := by
    unfold refC at hr
    by_cases a1 : alg = 1 ∨ alg = 2
    · omega
    · rw [if_neg a1] at hr
      by_cases a3 : alg = 3
      · omega
      · rw [if_neg a3] at hr; omega
  have hN : 1 ≤ n ∧ (alg ≠ 3 → 16 ≤ n) := by
    unfold refC at hr
    by_cases a1 : alg = 1 ∨ alg = 2
    · rw [if_pos a1] at hr
      by_cases h16 : n < 16
      · rw [if_pos h16] at hr; omega
      · omega
    · rw [if_neg a1] at hr
      by_cases a3 : alg = 3
      · rw [if_pos a3] at hr
        by_cases h16 : n < 1
        · rw [if_pos h16] at hr; omega
        · omega
      · omega
  clear hr
  obtain ⟨A, rfl⟩ := Int.eq_ofNat_of_zero_le (show 0 ≤ alg by omega)
  obtain ⟨N, rfl⟩ := Int.eq_ofNat_of_zero_le (show 0 ≤ n by omega)
  have c1 := parts_ok A N (by omega) (by omega) (by omega) (by omega)
  obtain ⟨hS, hT⟩ := part_sbs A N (by omega) (by omega) (by omega)
  have hlen := part_len A N (by omega)
  have hall := part_all A N (by omega)
  generalize partL A N = L at *
  obtain ⟨q, hq⟩ : ∃ q, q = L.length := ⟨_, rfl⟩
  obtain ⟨D, hD⟩ : ∃ D, D = pc L := ⟨_, rfl⟩
  rw [← hq, ← hD] at c1
  have hDl : D.length = 2 * q := by rw [hD, pc_len, hq]
  refine CallOK.from0 hmix Try.f6 0 fn6 (by kernel_rfl) (by kernel_rfl) (fun w ρ h1 h2 => ?_)
  refine AG.rk 4 [0, 1] [] 0 (todo' := [.code (sub (codeOf Try.f6) [1, 0, 0]), .code (sub (codeOf Try.f6) [1, 0, 1]), .code (sub (codeOf Try.f6) [1, 1])]) (st' := ⟨mkT 85 [(0, .ex (.int .i64 (↑A : Int))), (1, .ex (.int .i64 (↑N : Int)))], [], 0⟩) (by kernel_rfl) (by kernel_rfl) ?_
  refine AG.gk [] [(1, { val := .ex (.bool false) })] [0, 1, 11] [] 0 (st' := ⟨mkT 85 [(0, .ex (.int .i64 (↑A : Int))), (1, .ex (.int .i64 (↑N : Int))), (11, .ex (.bool false))], [], 0⟩) (obs := [Ob.eq (.ex (.bool (decide ((↑N : Int) > 3000)))) (.ex (.bool false))]) (by kernel_rfl) (by kernel_rfl) ⟨(by simp only [Ob.holds, g1]), trivial⟩ ?_
  refine AG.rk 3 [0, 1] [] 0 (todo' := [.code (sub (codeOf Try.f6) [1, 1, 0]), .code (sub (codeOf Try.f6) [1, 1, 1])]) (st' := ⟨mkT 85 [(0, .ex (.int .i64 (↑A : Int))), (1, .ex (.int .i64 (↑N : Int)))], [], 0⟩) (by kernel_rfl) (by kernel_rfl) ?_
  refine AG.gk [] [(2, useR [] 8 ({ val := .tup [.o 0 0 q, .ex (.int .i64 0)], upd := [(0, .rowX 2 D)], nks := [0] }))] [0, 1, 5, 6] [8] 9 (st' := ⟨mkT 85 [(0, .ex (.int .i64 (↑A : Int))), (1, .ex (.int .i64 (↑N : Int))), (5, .o 8 0 q), (6, .ex (.int .i64 0))], [(8, .rowX 2 D)], 9⟩) (obs := [Ob.call (fun g => List.lookup g []) 11 [.ex (.int .i64 (↑A : Int)), .ex (.int .i64 (↑N : Int))] [] (useR [] 8 { val := .tup [.o 0 0 q, .ex (.int .i64 0)], upd := [(0, .rowX 2 D)], nks := [0] })]) (by kernel_rfl) (by kernel_rfl) ⟨(CallOK.at0 [] 8 (c1 ) (.cons (.ex _) (.cons (.ex _) .nil)) .nil (by kernel_rfl)), trivial⟩ ?_
  refine AG.rk 11 [1, 5, 7, 8, 9] [8] 9 (todo' := [.code (sub (codeOf Try.f6) [1, 1, 1, 1, 1, 0, 1, 0]), .inBlock 0, .code (sub (codeOf Try.f6) [1, 1, 1, 1, 1, 1])]) (st' := ⟨mkT 85 [(1, .ex (.int .i64 (↑N : Int))), (5, .o 8 0 q), (7, .ex (.float FloatKind.f64 0)), (8, .ex (.int .i64 (↑N : Int))), (9, .ex (.int .i64 0))], [(8, .rowX 2 D)], 9⟩) (by kernel_rfl) (by kernel_rfl) ?_
  refine AG.rk 1 [1, 5, 7, 8, 9] [8] 9 (todo' := [.code (sub (codeOf Try.f6) [1, 1, 1, 1, 1, 0, 1, 0, 0]), .inLoop (sub (codeOf Try.f6) [1, 1, 1, 1, 1, 0, 1, 0, 0]), .inBlock 0, .code (sub (codeOf Try.f6) [1, 1, 1, 1, 1, 1])]) (st' := ⟨mkT 85 [(1, .ex (.int .i64 (↑N : Int))), (5, .o 8 0 q), (7, .ex (.float FloatKind.f64 0)), (8, .ex (.int .i64 (↑N : Int))), (9, .ex (.int .i64 0))], [(8, .rowX 2 D)], 9⟩) (by kernel_rfl) (by kernel_rfl) ?_
  have hT' : off L q = allAt N L q := by rw [hq]; exact hT
  refine AG.indE (α := {x : Nat × Nat × Nat // x.1 ≤ q ∧ x.2.1 = off L x.1 ∧ x.2.2 = allAt N L x.1}) (fun x => q - x.1.1)
    (fun x => ⟨mkT 85 [(1, .ex (.int .i64 (N : Int))), (5, .o 8 0 q), (7, .ex (.float .f64 (fb x.1.2.1))), (8, .ex (.int .i64 (x.1.2.2 : Int))), (9, .ex (.int .i64 (x.1.1 : Int)))], [(8, .rowX 2 D)], 9⟩) ⟨(0, 0, N), by omega, (off_zero L).symm, (allAt_zero N L).symm⟩ (by kernel_rfl) ?_
  rintro ⟨⟨i, o, e⟩, hi, ho, he⟩ ih
  simp only at hi ho he ih ⊢
  refine AG.rk 3 [1, 5, 7, 8, 9, 42] [8] 9 (todo' := [.code (sub (codeOf Try.f6) [1, 1, 1, 1, 1, 0, 1, 0, 0, 0, 1]), .code (sub (codeOf Try.f6) [1, 1, 1, 1, 1, 0, 1, 0, 0, 1]), .inLoop (sub (codeOf Try.f6) [1, 1, 1, 1, 1, 0, 1, 0, 0]), .inBlock 0, .code (sub (codeOf Try.f6) [1, 1, 1, 1, 1, 1])]) (st' := ⟨mkT 85 [(1, .ex (.int .i64 (↑N : Int))), (5, .o 8 0 q), (7, .ex (.float FloatKind.f64 (fb o))), (8, .ex (.int .i64 (↑e : Int))), (9, .ex (.int .i64 (↑i : Int))), (42, .ex (.bool (decide ((↑i : Int) < (↑q : Int)))))], [(8, .rowX 2 D)], 9⟩) (by kernel_rfl) (by kernel_rfl) ?_
  refine AG.cond (b := decide ((↑i : Int) < (↑q : Int))) (by kernel_rfl) (fun hc => ?_) (fun hc => ?_)
  · have hi' : i < q := by simp at hc; omega
    clear hc
    obtain ⟨p, hp⟩ : ∃ p, L[i]? = some p := ⟨L[i], List.getElem?_eq_getElem (by omega)⟩
    have hpa := hall p (List.mem_of_getElem? hp)
    have hps := hS i p hp
    have hos := off_succ L i p hp
    have hal := allAt_succ N L i p hp
    obtain ⟨k, a, s⟩ := p
    simp only at hpa hps hos hal
    rw [← ho] at hps hos
    rw [← he] at hal
    subst hps
    have d0 := pc_get L i _ hp
    rw [← hD] at d0
    simp only at d0
    have v5 : IntKind.i64.wrap ((i : Int) + 1) = ((i + 1 : Nat) : Int) := by rw [wrap64_id _ (by omega) (by omega)]; omega
    have k0 : D.getD (0 + (i : Int).toNat * 2 + 0) undef = .int .i64 (k : Int) := by rw [Int.toNat_natCast, List.getD_eq_getElem?_getD, show 0 + i * 2 + 0 = 2 * i by omega, d0.1]; rfl
    have k1 : D.getD (0 + (i : Int).toNat * 2 + 1) undef = .complex .f64 (fb a) (fb s) := by rw [Int.toNat_natCast, List.getD_eq_getElem?_getD, show 0 + i * 2 + 1 = 2 * i + 1 by omega, d0.2]; rfl
    have a0 := getD_add a s (by omega)
    have a1 := fok_add a s (by omega)
    have o1 : (Ieee.Format.order (FloatKind.format FloatKind.f64) (fb a) (fb a) != some Ordering.eq) = false := by rw [ord_fb a a (by omega) (by omega), Nat.compare_eq_eq.2 rfl]; rfl
    have o2 : (Ieee.Format.order (FloatKind.format FloatKind.f64) (fb s) 0 == some Ordering.lt) = false := by
      have := ord_fb s 0 (by omega) (by omega)
      rw [fb_lit0] at this
      rw [this]
      rcases Nat.eq_zero_or_pos s with h | h
      · rw [Nat.compare_eq_eq.2 h]; rfl
      · rw [Nat.compare_eq_gt.2 h]; rfl
    by_cases hk : k = 10
    · have hk1 : ((k : Int) == 10) = true := by rw [hk]; rfl
      have e2 : IntKind.i64.wrap (2 * (N : Int)) = ((2 * N : Nat) : Int) := by rw [wrap64_id _ (by omega) (by omega)]; omega
      rw [if_pos hk] at hal
      have ih1 := ih ⟨(i + 1, a + s, 2 * N), by simp only; omega, hos.symm, hal.symm⟩ (by simp only; omega)
      simp only at ih1
      generalize fb (a + s) = zs at *
      generalize fb a = ya at *
      generalize fb s = ys at *
      clear d0 hp
      refine AG.rk 5 [1, 5, 7, 8, 9] [8] 9 (todo' := [.code (sub (codeOf Try.f6) [1, 1, 1, 1, 1, 0, 1, 0, 0, 1, 0, 0, 0, 0]), .code (sub (codeOf Try.f6) [1, 1, 1, 1, 1, 0, 1, 0, 0, 1, 0, 0, 0, 1]), .code (sub (codeOf Try.f6) [1, 1, 1, 1, 1, 0, 1, 0, 0, 1, 0, 0, 1]), .inBlock 1, .code (sub (codeOf Try.f6) [1, 1, 1, 1, 1, 0, 1, 0, 0, 1, 1]), .inLoop (sub (codeOf Try.f6) [1, 1, 1, 1, 1, 0, 1, 0, 0]), .inBlock 0, .code (sub (codeOf Try.f6) [1, 1, 1, 1, 1, 1])]) (st' := ⟨mkT 85 [(1, .ex (.int .i64 (↑N : Int))), (5, .o 8 0 q), (7, .ex (.float FloatKind.f64 ya)), (8, .ex (.int .i64 (↑e : Int))), (9, .ex (.int .i64 (↑i : Int)))], [(8, .rowX 2 D)], 9⟩) (by kernel_rfl) (by kernel_rfl) ?_
      refine AG.gk [2, 11] [(4, { val := .ex (.complex FloatKind.f64 ya ys) }), (7, { val := .ex (.bool false) }), (13, { val := .ex (.complex FloatKind.f64 ya ys) }), (15, { val := .ex (.bool false) })] [1, 5, 7, 8, 9, 61] [8] 9 (st' := ⟨mkT 85 [(1, .ex (.int .i64 (↑N : Int))), (5, .o 8 0 q), (7, .ex (.float FloatKind.f64 ya)), (8, .ex (.int .i64 (↑e : Int))), (9, .ex (.int .i64 (↑i : Int))), (61, .ex (.bool false))], [(8, .rowX 2 D)], 9⟩) (obs := [Ob.ix (↑i : Int) q, Ob.eq (.ex (List.getD D (0 + Int.toNat (↑i : Int) * 2 + 1) undef)) (.ex (.complex FloatKind.f64 ya ys)), Ob.le (0 + Int.toNat (↑i : Int) * 2 + 1 + 1) (List.length D), Ob.eq (.ex (.bool (Ieee.Format.order (FloatKind.format FloatKind.f64) ya ya != some Ordering.eq))) (.ex (.bool false)), Ob.ix (↑i : Int) q, Ob.eq (.ex (List.getD D (0 + Int.toNat (↑i : Int) * 2 + 1) undef)) (.ex (.complex FloatKind.f64 ya ys)), Ob.le (0 + Int.toNat (↑i : Int) * 2 + 1 + 1) (List.length D), Ob.eq (.ex (.bool (Ieee.Format.order (FloatKind.format FloatKind.f64) ys 0 == some Ordering.lt))) (.ex (.bool false))]) (by kernel_rfl) (by kernel_rfl) ⟨(by (simp only [Ob.holds]; omega)), (by simp only [Ob.holds, k1]), (by (simp only [Ob.holds]; omega)), (by simp only [Ob.holds, o1]), (by (simp only [Ob.holds]; omega)), (by simp only [Ob.holds, k1]), (by (simp only [Ob.holds]; omega)), (by simp only [Ob.holds, o2]), trivial⟩ ?_
      refine AG.rk 3 [1, 5, 7, 8, 9] [8] 9 (todo' := [.code (sub (codeOf Try.f6) [1, 1, 1, 1, 1, 0, 1, 0, 0, 1, 0, 0, 1, 0]), .code (sub (codeOf Try.f6) [1, 1, 1, 1, 1, 0, 1, 0, 0, 1, 0, 0, 1, 1]), .inBlock 1, .code (sub (codeOf Try.f6) [1, 1, 1, 1, 1, 0, 1, 0, 0, 1, 1]), .inLoop (sub (codeOf Try.f6) [1, 1, 1, 1, 1, 0, 1, 0, 0]), .inBlock 0, .code (sub (codeOf Try.f6) [1, 1, 1, 1, 1, 1])]) (st' := ⟨mkT 85 [(1, .ex (.int .i64 (↑N : Int))), (5, .o 8 0 q), (7, .ex (.float FloatKind.f64 ya)), (8, .ex (.int .i64 (↑e : Int))), (9, .ex (.int .i64 (↑i : Int)))], [(8, .rowX 2 D)], 9⟩) (by kernel_rfl) (by kernel_rfl) ?_
      refine AG.gk [3] [(5, { val := .ex (.complex FloatKind.f64 ya ys) }), (7, { val := .ex (.float FloatKind.f64 zs) })] [1, 5, 7, 8, 9] [8] 9 (st' := ⟨mkT 85 [(1, .ex (.int .i64 (↑N : Int))), (5, .o 8 0 q), (7, .ex (.float FloatKind.f64 zs)), (8, .ex (.int .i64 (↑e : Int))), (9, .ex (.int .i64 (↑i : Int)))], [(8, .rowX 2 D)], 9⟩) (obs := [Ob.ix (↑i : Int) q, Ob.eq (.ex (List.getD D (0 + Int.toNat (↑i : Int) * 2 + 1) undef)) (.ex (.complex FloatKind.f64 ya ys)), Ob.le (0 + Int.toNat (↑i : Int) * 2 + 1 + 1) (List.length D), Ob.eq (.ex (.float FloatKind.f64 (Option.getD (floatBits BinOp.add FloatKind.f64 ya ys) 0))) (.ex (.float FloatKind.f64 zs)), Ob.le 1 (fok (floatBits BinOp.add FloatKind.f64 ya ys))]) (by kernel_rfl) (by kernel_rfl) ⟨(by (simp only [Ob.holds]; omega)), (by simp only [Ob.holds, k1]), (by (simp only [Ob.holds]; omega)), (by simp only [Ob.holds, a0]), (by (simp only [Ob.holds]; omega)), trivial⟩ ?_
      refine AG.rk 1 [1, 5, 7, 8, 9] [8] 9 (todo' := [.code (sub (codeOf Try.f6) [1, 1, 1, 1, 1, 0, 1, 0, 0, 1, 0, 0, 1, 1, 0]), .code (sub (codeOf Try.f6) [1, 1, 1, 1, 1, 0, 1, 0, 0, 1, 0, 0, 1, 1, 1]), .inBlock 1, .code (sub (codeOf Try.f6) [1, 1, 1, 1, 1, 0, 1, 0, 0, 1, 1]), .inLoop (sub (codeOf Try.f6) [1, 1, 1, 1, 1, 0, 1, 0, 0]), .inBlock 0, .code (sub (codeOf Try.f6) [1, 1, 1, 1, 1, 1])]) (st' := ⟨mkT 85 [(1, .ex (.int .i64 (↑N : Int))), (5, .o 8 0 q), (7, .ex (.float FloatKind.f64 zs)), (8, .ex (.int .i64 (↑e : Int))), (9, .ex (.int .i64 (↑i : Int)))], [(8, .rowX 2 D)], 9⟩) (by kernel_rfl) (by kernel_rfl) ?_
      refine AG.gk [2] [(4, { val := .ex (.int .i64 (↑k : Int)) }), (5, { val := .ex (.bool true) })] [1, 5, 7, 8, 9, 75] [8] 9 (st' := ⟨mkT 85 [(1, .ex (.int .i64 (↑N : Int))), (5, .o 8 0 q), (7, .ex (.float FloatKind.f64 zs)), (8, .ex (.int .i64 (↑e : Int))), (9, .ex (.int .i64 (↑i : Int))), (75, .ex (.bool true))], [(8, .rowX 2 D)], 9⟩) (obs := [Ob.ix (↑i : Int) q, Ob.eq (.ex (List.getD D (0 + Int.toNat (↑i : Int) * 2 + 0) undef)) (.ex (.int .i64 (↑k : Int))), Ob.le (0 + Int.toNat (↑i : Int) * 2 + 0 + 1) (List.length D), Ob.eq (.ex (.bool ((↑k : Int) == 10))) (.ex (.bool true))]) (by kernel_rfl) (by kernel_rfl) ⟨(by (simp only [Ob.holds]; omega)), (by simp only [Ob.holds, k0]), (by (simp only [Ob.holds]; omega)), (by simp only [Ob.holds, hk1]), trivial⟩ ?_
      refine AG.rk 1 [1, 5, 7, 9] [8] 9 (todo' := [.code (sub (codeOf Try.f6) [1, 1, 1, 1, 1, 0, 1, 0, 0, 1, 0, 0, 1, 1, 1, 0]), .inBlock 1, .code (sub (codeOf Try.f6) [1, 1, 1, 1, 1, 0, 1, 0, 0, 1, 1]), .inLoop (sub (codeOf Try.f6) [1, 1, 1, 1, 1, 0, 1, 0, 0]), .inBlock 0, .code (sub (codeOf Try.f6) [1, 1, 1, 1, 1, 1])]) (st' := ⟨mkT 85 [(1, .ex (.int .i64 (↑N : Int))), (5, .o 8 0 q), (7, .ex (.float FloatKind.f64 zs)), (9, .ex (.int .i64 (↑i : Int)))], [(8, .rowX 2 D)], 9⟩) (by kernel_rfl) (by kernel_rfl) ?_
      refine AG.gk [] [(1, { val := .ex (.int .i64 (↑(2 * N) : Int)) })] [1, 5, 7, 8, 9] [8] 9 (st' := ⟨mkT 85 [(1, .ex (.int .i64 (↑N : Int))), (5, .o 8 0 q), (7, .ex (.float FloatKind.f64 zs)), (8, .ex (.int .i64 (↑(2 * N) : Int))), (9, .ex (.int .i64 (↑i : Int)))], [(8, .rowX 2 D)], 9⟩) (obs := [Ob.eq (.ex (.int .i64 (IntKind.wrap .i64 (2 * (↑N : Int))))) (.ex (.int .i64 (↑(2 * N) : Int)))]) (by kernel_rfl) (by kernel_rfl) ⟨(by simp only [Ob.holds, e2]), trivial⟩ ?_
      refine AG.rk 3 [1, 5, 7, 8, 9] [8] 9 (todo' := [.code (sub (codeOf Try.f6) [1, 1, 1, 1, 1, 0, 1, 0, 0]), .inLoop (sub (codeOf Try.f6) [1, 1, 1, 1, 1, 0, 1, 0, 0]), .inBlock 0, .code (sub (codeOf Try.f6) [1, 1, 1, 1, 1, 1])]) (st' := ⟨mkT 85 [(1, .ex (.int .i64 (↑N : Int))), (5, .o 8 0 q), (7, .ex (.float FloatKind.f64 zs)), (8, .ex (.int .i64 (↑(2 * N) : Int))), (9, .ex (.int .i64 (IntKind.wrap .i64 ((↑i : Int) + 1))))], [(8, .rowX 2 D)], 9⟩) (by kernel_rfl) (by kernel_rfl) ?_
      rewrite [v5]
      exact ih1
    · have hk1 : ((k : Int) == 10) = false := by simp; omega
      rw [if_neg hk] at hal
      have ih1 := ih ⟨(i + 1, a + s, e), by simp only; omega, hos.symm, hal.symm⟩ (by simp only; omega)
      simp only at ih1
      generalize fb (a + s) = zs at *
      generalize fb a = ya at *
      generalize fb s = ys at *
      clear d0 hp
      refine AG.rk 5 [1, 5, 7, 8, 9] [8] 9 (todo' := [.code (sub (codeOf Try.f6) [1, 1, 1, 1, 1, 0, 1, 0, 0, 1, 0, 0, 0, 0]), .code (sub (codeOf Try.f6) [1, 1, 1, 1, 1, 0, 1, 0, 0, 1, 0, 0, 0, 1]), .code (sub (codeOf Try.f6) [1, 1, 1, 1, 1, 0, 1, 0, 0, 1, 0, 0, 1]), .inBlock 1, .code (sub (codeOf Try.f6) [1, 1, 1, 1, 1, 0, 1, 0, 0, 1, 1]), .inLoop (sub (codeOf Try.f6) [1, 1, 1, 1, 1, 0, 1, 0, 0]), .inBlock 0, .code (sub (codeOf Try.f6) [1, 1, 1, 1, 1, 1])]) (st' := ⟨mkT 85 [(1, .ex (.int .i64 (↑N : Int))), (5, .o 8 0 q), (7, .ex (.float FloatKind.f64 ya)), (8, .ex (.int .i64 (↑e : Int))), (9, .ex (.int .i64 (↑i : Int)))], [(8, .rowX 2 D)], 9⟩) (by kernel_rfl) (by kernel_rfl) ?_
      refine AG.gk [2, 11] [(4, { val := .ex (.complex FloatKind.f64 ya ys) }), (7, { val := .ex (.bool false) }), (13, { val := .ex (.complex FloatKind.f64 ya ys) }), (15, { val := .ex (.bool false) })] [1, 5, 7, 8, 9, 61] [8] 9 (st' := ⟨mkT 85 [(1, .ex (.int .i64 (↑N : Int))), (5, .o 8 0 q), (7, .ex (.float FloatKind.f64 ya)), (8, .ex (.int .i64 (↑e : Int))), (9, .ex (.int .i64 (↑i : Int))), (61, .ex (.bool false))], [(8, .rowX 2 D)], 9⟩) (obs := [Ob.ix (↑i : Int) q, Ob.eq (.ex (List.getD D (0 + Int.toNat (↑i : Int) * 2 + 1) undef)) (.ex (.complex FloatKind.f64 ya ys)), Ob.le (0 + Int.toNat (↑i : Int) * 2 + 1 + 1) (List.length D), Ob.eq (.ex (.bool (Ieee.Format.order (FloatKind.format FloatKind.f64) ya ya != some Ordering.eq))) (.ex (.bool false)), Ob.ix (↑i : Int) q, Ob.eq (.ex (List.getD D (0 + Int.toNat (↑i : Int) * 2 + 1) undef)) (.ex (.complex FloatKind.f64 ya ys)), Ob.le (0 + Int.toNat (↑i : Int) * 2 + 1 + 1) (List.length D), Ob.eq (.ex (.bool (Ieee.Format.order (FloatKind.format FloatKind.f64) ys 0 == some Ordering.lt))) (.ex (.bool false))]) (by kernel_rfl) (by kernel_rfl) ⟨(by (simp only [Ob.holds]; omega)), (by simp only [Ob.holds, k1]), (by (simp only [Ob.holds]; omega)), (by simp only [Ob.holds, o1]), (by (simp only [Ob.holds]; omega)), (by simp only [Ob.holds, k1]), (by (simp only [Ob.holds]; omega)), (by simp only [Ob.holds, o2]), trivial⟩ ?_
      refine AG.rk 3 [1, 5, 7, 8, 9] [8] 9 (todo' := [.code (sub (codeOf Try.f6) [1, 1, 1, 1, 1, 0, 1, 0, 0, 1, 0, 0, 1, 0]), .code (sub (codeOf Try.f6) [1, 1, 1, 1, 1, 0, 1, 0, 0, 1, 0, 0, 1, 1]), .inBlock 1, .code (sub (codeOf Try.f6) [1, 1, 1, 1, 1, 0, 1, 0, 0, 1, 1]), .inLoop (sub (codeOf Try.f6) [1, 1, 1, 1, 1, 0, 1, 0, 0]), .inBlock 0, .code (sub (codeOf Try.f6) [1, 1, 1, 1, 1, 1])]) (st' := ⟨mkT 85 [(1, .ex (.int .i64 (↑N : Int))), (5, .o 8 0 q), (7, .ex (.float FloatKind.f64 ya)), (8, .ex (.int .i64 (↑e : Int))), (9, .ex (.int .i64 (↑i : Int)))], [(8, .rowX 2 D)], 9⟩) (by kernel_rfl) (by kernel_rfl) ?_
      refine AG.gk [3] [(5, { val := .ex (.complex FloatKind.f64 ya ys) }), (7, { val := .ex (.float FloatKind.f64 zs) })] [1, 5, 7, 8, 9] [8] 9 (st' := ⟨mkT 85 [(1, .ex (.int .i64 (↑N : Int))), (5, .o 8 0 q), (7, .ex (.float FloatKind.f64 zs)), (8, .ex (.int .i64 (↑e : Int))), (9, .ex (.int .i64 (↑i : Int)))], [(8, .rowX 2 D)], 9⟩) (obs := [Ob.ix (↑i : Int) q, Ob.eq (.ex (List.getD D (0 + Int.toNat (↑i : Int) * 2 + 1) undef)) (.ex (.complex FloatKind.f64 ya ys)), Ob.le (0 + Int.toNat (↑i : Int) * 2 + 1 + 1) (List.length D), Ob.eq (.ex (.float FloatKind.f64 (Option.getD (floatBits BinOp.add FloatKind.f64 ya ys) 0))) (.ex (.float FloatKind.f64 zs)), Ob.le 1 (fok (floatBits BinOp.add FloatKind.f64 ya ys))]) (by kernel_rfl) (by kernel_rfl) ⟨(by (simp only [Ob.holds]; omega)), (by simp only [Ob.holds, k1]), (by (simp only [Ob.holds]; omega)), (by simp only [Ob.holds, a0]), (by (simp only [Ob.holds]; omega)), trivial⟩ ?_
      refine AG.rk 1 [1, 5, 7, 8, 9] [8] 9 (todo' := [.code (sub (codeOf Try.f6) [1, 1, 1, 1, 1, 0, 1, 0, 0, 1, 0, 0, 1, 1, 0]), .code (sub (codeOf Try.f6) [1, 1, 1, 1, 1, 0, 1, 0, 0, 1, 0, 0, 1, 1, 1]), .inBlock 1, .code (sub (codeOf Try.f6) [1, 1, 1, 1, 1, 0, 1, 0, 0, 1, 1]), .inLoop (sub (codeOf Try.f6) [1, 1, 1, 1, 1, 0, 1, 0, 0]), .inBlock 0, .code (sub (codeOf Try.f6) [1, 1, 1, 1, 1, 1])]) (st' := ⟨mkT 85 [(1, .ex (.int .i64 (↑N : Int))), (5, .o 8 0 q), (7, .ex (.float FloatKind.f64 zs)), (8, .ex (.int .i64 (↑e : Int))), (9, .ex (.int .i64 (↑i : Int)))], [(8, .rowX 2 D)], 9⟩) (by kernel_rfl) (by kernel_rfl) ?_
      refine AG.gk [2] [(4, { val := .ex (.int .i64 (↑k : Int)) }), (5, { val := .ex (.bool false) })] [1, 5, 7, 8, 9, 75] [8] 9 (st' := ⟨mkT 85 [(1, .ex (.int .i64 (↑N : Int))), (5, .o 8 0 q), (7, .ex (.float FloatKind.f64 zs)), (8, .ex (.int .i64 (↑e : Int))), (9, .ex (.int .i64 (↑i : Int))), (75, .ex (.bool false))], [(8, .rowX 2 D)], 9⟩) (obs := [Ob.ix (↑i : Int) q, Ob.eq (.ex (List.getD D (0 + Int.toNat (↑i : Int) * 2 + 0) undef)) (.ex (.int .i64 (↑k : Int))), Ob.le (0 + Int.toNat (↑i : Int) * 2 + 0 + 1) (List.length D), Ob.eq (.ex (.bool ((↑k : Int) == 10))) (.ex (.bool false))]) (by kernel_rfl) (by kernel_rfl) ⟨(by (simp only [Ob.holds]; omega)), (by simp only [Ob.holds, k0]), (by (simp only [Ob.holds]; omega)), (by simp only [Ob.holds, hk1]), trivial⟩ ?_
      refine AG.rk 5 [1, 5, 7, 8, 9] [8] 9 (todo' := [.code (sub (codeOf Try.f6) [1, 1, 1, 1, 1, 0, 1, 0, 0]), .inLoop (sub (codeOf Try.f6) [1, 1, 1, 1, 1, 0, 1, 0, 0]), .inBlock 0, .code (sub (codeOf Try.f6) [1, 1, 1, 1, 1, 1])]) (st' := ⟨mkT 85 [(1, .ex (.int .i64 (↑N : Int))), (5, .o 8 0 q), (7, .ex (.float FloatKind.f64 zs)), (8, .ex (.int .i64 (↑e : Int))), (9, .ex (.int .i64 (IntKind.wrap .i64 ((↑i : Int) + 1))))], [(8, .rowX 2 D)], 9⟩) (by kernel_rfl) (by kernel_rfl) ?_
      rewrite [v5]
      exact ih1
  · obtain rfl : i = q := by simp at hc; omega
    clear hc ih
    have heo : e = o := by rw [he, ho, hT']
    subst heo
    have hle := allAt_le N L i
    have o1 := eq_fb e e (by omega) (by omega)
    rw [decide_eq_true rfl] at o1
    generalize hf : fb e = fe at *
    refine AG.rk 2 [7, 8] [] 0 (todo' := [.code (sub (codeOf Try.f6) [1, 1, 1, 1, 1, 1, 0]), .code (sub (codeOf Try.f6) [1, 0, 1, 0, 1])]) (st' := ⟨mkT 85 [(7, .ex (.float FloatKind.f64 fe)), (8, .ex (.int .i64 (↑e : Int)))], [], 0⟩) (by kernel_rfl) (by kernel_rfl) ?_
    refine AG.gk [] [(2, { val := .ex (.float FloatKind.f64 fe) }), (3, { val := .ex (.bool true) }), (5, { val := .ex (.bool true) })] [4] [] 0 (st' := ⟨mkT 85 [(4, .ex (.bool true))], [], 0⟩) (obs := [Ob.eq (.ex (.float FloatKind.f64 (fb e))) (.ex (.float FloatKind.f64 fe)), Ob.eq (.ex (.bool (Ieee.Format.order (FloatKind.format FloatKind.f64) fe fe == some Ordering.eq))) (.ex (.bool true)), Ob.call (fun g => List.lookup g []) 13 [] [] { val := .ex (.bool true) }]) (by kernel_rfl) (by kernel_rfl) ⟨(by simp only [Ob.holds, hf]), (by simp only [Ob.holds, o1]), ((Go.Proofs.Ytngmlkkcjjfiaaa.Ab.awake_ok ).gl), trivial⟩ ?_
    refine AG.fin ([.ex (.bool true)]) Go.Proofs.Try.f6 fn6 (.inr ⟨_, rfl⟩) (obs := []) (by kernel_rfl) trivial (by kernel_rfl) trivial (by kernel_rfl)
end Go.Proofs.Ytngmlkkcjjfiaaa.Ab
