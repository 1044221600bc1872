/- Own: the law CutPairs followed (no statement is proved here). -/
import Derived.Test.YtngmlkkcjjfiaaaF6
import Derived.KernelRfl
namespace Go.Proofs.Ytngmlkkcjjfiaaa.Ab
open Go.Proofs
set_option linter.unusedSimpArgs false
set_option linter.unusedVariables false
set_option maxRecDepth 4000
theorem fn10 : Try.prog.funcs[10]? = some Try.f10 := by kernel_rfl
def shp (p : Nat × Nat × Nat) : Nat × Nat × Nat := (p.1, p.2.1 + 32, p.2.2)
theorem pairL_shift : ∀ m, pairL (m + 1) = [(4, 0, 16), (5, 16, 16)] ++ (pairL m).map shp
  | 0 => rfl
  | m + 1 => by
    show pairL (m + 1) ++ [(4, 32 * (m + 1), 16)] ++ [(5, 32 * (m + 1) + 16, 16)] = _ ++ (pairL m ++ [(4, 32 * m, 16)] ++ [(5, 32 * m + 16, 16)]).map shp
    rw [pairL_shift m]
    simp [shp]
    omega
theorem aez_shift (n : Nat) (h : 32 ≤ n) : aezL (n + 32) = [(4, 0, 16), (5, 16, 16)] ++ (aezL n).map shp := by
  unfold aezL
  rw [show (n + 32 - 32) / 32 = (n - 32) / 32 + 1 by omega, show (n + 32 - 32) % 32 = (n - 32) % 32 by omega, pairL_shift]
  generalize pairL ((n - 32) / 32) = L
  generalize (n - 32) % 32 = d
  generalize (n - 32) / 32 = P
  unfold restL
  by_cases h0 : d = 0
  · rw [if_pos h0, if_pos h0]; simp [shp]; omega
  rw [if_neg h0, if_neg h0]
  by_cases h16 : d < 16
  · rw [if_pos h16, if_pos h16]; simp [shp]; omega
  · rw [if_neg h16, if_neg h16]; simp [shp]; omega
theorem aez_all (n : Nat) (h : 32 ≤ n) (hn : n ≤ 65536) : ∀ p ∈ aezL n, p.2.1 ≤ 70000 ∧ p.2.2 ≤ 70000 := by
  have hP : ∀ m, m ≤ 2100 → ∀ p ∈ pairL m, p.2.1 ≤ 70000 ∧ p.2.2 ≤ 70000 := fun m => by
    induction m with
    | zero => intro _ p hp; simp [pairL] at hp
    | succ m ih =>
      intro hm p hp
      simp only [pairL, List.mem_append, List.mem_singleton] at hp
      rcases hp with (hp | rfl) | rfl
      · exact ih (by omega) p hp
      · simp; omega
      · simp; omega
  intro p hp
  unfold aezL restL at hp
  simp only [List.mem_append, List.mem_singleton] at hp
  rcases hp with (hp | rfl) | rfl
  · split at hp
    · exact hP _ (by omega) p hp
    · split at hp
      · simp only [List.mem_append, List.mem_singleton] at hp
        rcases hp with hp | rfl
        · exact hP _ (by omega) p hp
        · simp; omega
      · simp only [List.mem_append, List.mem_singleton] at hp
        rcases hp with (hp | rfl) | rfl
        · exact hP _ (by omega) p hp
        · simp; omega
        · simp; omega
  · simp; omega
  · simp; omega
theorem aez_len (n : Nat) (hn : n ≤ 65536) : (aezL n).length ≤ 5000 := by
  unfold aezL restL
  split
  · simp [pairL_len]; omega
  · split
    · simp [pairL_len]; omega
    · simp [pairL_len]; omega
theorem fb_lit32 : fb 32 = 4629700416936869888 := by decide +kernel
theorem cpairs_ok (n : Int) (hn : 0 ≤ n ∧ n ≤ 65535) : CallOK Try.prog (fun _ => none) 10 [.ex (.int .u16 n)] [] { val := .ex (.bool true) } := by
  obtain ⟨n, rfl⟩ := Int.eq_ofNat_of_zero_le hn.1
  by_cases h32 : n < 32
  · have g0 : decide ((n : Int) < 32) = true := by simp; omega
    refine CallOK.from0 hmix Try.f10 0 fn10 (by kernel_rfl) (by kernel_rfl) (fun w ρ h1 h2 => ?_)
    refine AG.rk 4 [0] [] 0 (todo' := [.code (sub (codeOf Try.f10) [1, 0, 0]), .code (sub (codeOf Try.f10) [1, 0, 1]), .code (sub (codeOf Try.f10) [1, 1])]) (st' := ⟨mkT 87 [(0, .ex (.int .u16 (↑n : Int)))], [], 0⟩) (by kernel_rfl) (by kernel_rfl) ?_
    refine AG.gk [] [(1, { val := .ex (.bool true) })] [0, 13] [] 0 (st' := ⟨mkT 87 [(0, .ex (.int .u16 (↑n : Int))), (13, .ex (.bool true))], [], 0⟩) (obs := [Ob.eq (.ex (.bool (decide ((↑n : Int) < 32)))) (.ex (.bool true))]) (by kernel_rfl) (by kernel_rfl) ⟨(by simp only [Ob.holds, g0]), trivial⟩ ?_
    refine AG.rk 3 [2] [] 0 (todo' := [.code (sub (codeOf Try.f10) [1, 0, 1, 0, 1]), .code (sub (codeOf Try.f10) [1, 1])]) (st' := ⟨mkT 87 [(2, .ex (.bool true))], [], 0⟩) (by kernel_rfl) (by kernel_rfl) ?_
    refine AG.fin ([.ex (.bool true)]) Go.Proofs.Try.f10 fn10 (.inr ⟨_, rfl⟩) (obs := []) (by kernel_rfl) trivial (by kernel_rfl) trivial (by kernel_rfl)
  have g0 : decide ((n : Int) < 32) = false := by simp; omega
  by_cases h3000 : n > 3000
  · have g1 : decide ((n : Int) > 3000) = true := by simp; omega
    refine CallOK.from0 hmix Try.f10 0 fn10 (by kernel_rfl) (by kernel_rfl) (fun w ρ h1 h2 => ?_)
    refine AG.rk 4 [0] [] 0 (todo' := [.code (sub (codeOf Try.f10) [1, 0, 0]), .code (sub (codeOf Try.f10) [1, 0, 1]), .code (sub (codeOf Try.f10) [1, 1])]) (st' := ⟨mkT 87 [(0, .ex (.int .u16 (↑n : Int)))], [], 0⟩) (by kernel_rfl) (by kernel_rfl) ?_
    refine AG.gk [] [(1, { val := .ex (.bool false) }), (4, { val := .ex (.bool true) })] [0, 13] [] 0 (st' := ⟨mkT 87 [(0, .ex (.int .u16 (↑n : Int))), (13, .ex (.bool true))], [], 0⟩) (obs := [Ob.eq (.ex (.bool (decide ((↑n : Int) < 32)))) (.ex (.bool false)), Ob.eq (.ex (.bool (decide ((↑n : Int) > 3000)))) (.ex (.bool true))]) (by kernel_rfl) (by kernel_rfl) ⟨(by simp only [Ob.holds, g0]), (by simp only [Ob.holds, g1]), trivial⟩ ?_
    refine AG.rk 3 [2] [] 0 (todo' := [.code (sub (codeOf Try.f10) [1, 0, 1, 0, 1]), .code (sub (codeOf Try.f10) [1, 1])]) (st' := ⟨mkT 87 [(2, .ex (.bool true))], [], 0⟩) (by kernel_rfl) (by kernel_rfl) ?_
    refine AG.fin ([.ex (.bool true)]) Go.Proofs.Try.f10 fn10 (.inr ⟨_, rfl⟩) (obs := []) (by kernel_rfl) trivial (by kernel_rfl) trivial (by kernel_rfl)
  have g1 : decide ((n : Int) > 3000) = false := by simp; omega
  have w1 : IntKind.i64.wrap (n : Int) = (n : Int) := by rw [wrap64_id _ (by omega) (by omega)]
  have w2 : IntKind.i64.wrap ((n : Int) + 32) = ((n + 32 : Nat) : Int) := by rw [wrap64_id _ (by omega) (by omega)]; omega
  have c1 := parts_ok 3 n (.inr (.inr rfl)) (by omega) (by omega) (fun h => absurd rfl h)
  have c2 := parts_ok 3 (n + 32) (.inr (.inr rfl)) (by omega) (by omega) (fun h => absurd rfl h)
  have hL : partL 3 n = aezL n := by unfold partL; rw [if_neg (by decide), if_neg (by decide), if_neg (by omega)]
  have hL2 : partL 3 (n + 32) = aezL (n + 32) := by unfold partL; rw [if_neg (by decide), if_neg (by decide), if_neg (by omega)]
  rw [hL] at c1
  rw [hL2, aez_shift n (by omega)] at c2
  have hall := aez_all n (by omega) (by omega)
  have hlen := aez_len n (by omega)
  generalize aezL n = L at *
  obtain ⟨q, hq⟩ : ∃ q, q = L.length := ⟨_, rfl⟩
  rw [pc_app, show ([(4, 0, 16), (5, 16, 16)] ++ List.map shp L : List (Nat × Nat × Nat)).length = q + 2 by rw [hq]; simp] at c2
  rw [← hq] at c1
  obtain ⟨C, hC⟩ : ∃ C, C = pc (L.map shp) := ⟨_, rfl⟩
  rw [← hC] at c2
  obtain ⟨D, hD⟩ : ∃ D, D = pc L := ⟨_, rfl⟩
  rw [← hD] at c1
  have hq3 : q ≤ 5000 := by omega
  have i1 : IntKind.i64.wrap ((q : Int) + 2) = ((q + 2 : Nat) : Int) := by rw [wrap64_id _ (by omega) (by omega)]; omega
  have i2 : (((q + 2 : Nat) : Int) != ((q + 2 : Nat) : Int)) = false := by simp
  refine CallOK.from0 hmix Try.f10 0 fn10 (by kernel_rfl) (by kernel_rfl) (fun w ρ h1 h2 => ?_)
  refine AG.rk 4 [0] [] 0 (todo' := [.code (sub (codeOf Try.f10) [1, 0, 0]), .code (sub (codeOf Try.f10) [1, 0, 1]), .code (sub (codeOf Try.f10) [1, 1])]) (st' := ⟨mkT 87 [(0, .ex (.int .u16 (↑n : Int)))], [], 0⟩) (by kernel_rfl) (by kernel_rfl) ?_
  refine AG.gk [] [(1, { val := .ex (.bool false) }), (4, { val := .ex (.bool false) })] [0, 13] [] 0 (st' := ⟨mkT 87 [(0, .ex (.int .u16 (↑n : Int))), (13, .ex (.bool false))], [], 0⟩) (obs := [Ob.eq (.ex (.bool (decide ((↑n : Int) < 32)))) (.ex (.bool false)), Ob.eq (.ex (.bool (decide ((↑n : Int) > 3000)))) (.ex (.bool false))]) (by kernel_rfl) (by kernel_rfl) ⟨(by simp only [Ob.holds, g0]), (by simp only [Ob.holds, g1]), trivial⟩ ?_
  refine AG.rk 3 [0] [] 0 (todo' := [.code (sub (codeOf Try.f10) [1, 1, 0]), .code (sub (codeOf Try.f10) [1, 1, 1])]) (st' := ⟨mkT 87 [(0, .ex (.int .u16 (↑n : Int)))], [], 0⟩) (by kernel_rfl) (by kernel_rfl) ?_
  refine AG.gk [] [(1, { val := .ex (.int .i64 (↑n : Int)) }), (2, useR [] 8 ({ val := .tup [.o 0 0 q, .ex (.int .i64 0)], upd := [(0, .rowX 2 D)], nks := [0] }))] [0, 3, 4] [8] 9 (st' := ⟨mkT 87 [(0, .ex (.int .u16 (↑n : Int))), (3, .o 8 0 q), (4, .ex (.int .i64 0))], [(8, .rowX 2 D)], 9⟩) (obs := [Ob.eq (.ex (.int .i64 (IntKind.wrap .i64 (↑n : Int)))) (.ex (.int .i64 (↑n : Int))), Ob.call (fun g => List.lookup g []) 11 [.ex (.int .i64 3), .ex (.int .i64 (↑n : Int))] [] (useR [] 8 { val := .tup [.o 0 0 q, .ex (.int .i64 0)], upd := [(0, .rowX 2 D)], nks := [0] })]) (by kernel_rfl) (by kernel_rfl) ⟨(by simp only [Ob.holds, w1]), (CallOK.at0 [] 8 (c1 ) (.cons (.ex _) (.cons (.ex _) .nil)) .nil (by kernel_rfl)), trivial⟩ ?_
  refine AG.rk 1 [0, 3, 4] [8] 9 (todo' := [.code (sub (codeOf Try.f10) [1, 1, 1, 0]), .code (sub (codeOf Try.f10) [1, 1, 1, 1])]) (st' := ⟨mkT 87 [(0, .ex (.int .u16 (↑n : Int))), (3, .o 8 0 q), (4, .ex (.int .i64 0))], [(8, .rowX 2 D)], 9⟩) (by kernel_rfl) (by kernel_rfl) ?_
  refine AG.gk [] [(1, { val := .ex (.int .i64 (↑n : Int)) }), (2, { val := .ex (.int .i64 (↑(n + 32) : Int)) }), (3, useR [] 21 ({ val := .tup [.o 0 0 (q + 2), .ex (.int .i64 0)], upd := [(0, .rowX 2 (pc [(4, 0, 16), (5, 16, 16)] ++ C))], nks := [0] }))] [3, 4, 5, 6] [8, 21] 22 (st' := ⟨mkT 87 [(3, .o 8 0 q), (4, .ex (.int .i64 0)), (5, .o 21 0 (q + 2)), (6, .ex (.int .i64 0))], [(8, .rowX 2 D), (21, .rowX 2 ([Value.int .i64 4, Value.complex FloatKind.f64 0 4625196817309499392, Value.int .i64 5, Value.complex FloatKind.f64 4625196817309499392 4625196817309499392] ++ C))], 22⟩) (obs := [Ob.eq (.ex (.int .i64 (IntKind.wrap .i64 (↑n : Int)))) (.ex (.int .i64 (↑n : Int))), Ob.eq (.ex (.int .i64 (IntKind.wrap .i64 ((↑n : Int) + 32)))) (.ex (.int .i64 (↑(n + 32) : Int))), Ob.call (fun g => List.lookup g []) 11 [.ex (.int .i64 3), .ex (.int .i64 (↑(n + 32) : Int))] [] (useR [] 21 { val := .tup [.o 0 0 (q + 2), .ex (.int .i64 0)], upd := [(0, .rowX 2 (pc [(4, 0, 16), (5, 16, 16)] ++ C))], nks := [0] })]) (by kernel_rfl) (by kernel_rfl) ⟨(by simp only [Ob.holds, w1]), (by simp only [Ob.holds, w2]), (CallOK.at0 [] 21 (c2 ) (.cons (.ex _) (.cons (.ex _) .nil)) .nil (by kernel_rfl)), trivial⟩ ?_
  refine AG.rk 2 [3, 4, 5, 6] [8, 21] 22 (todo' := [.code (sub (codeOf Try.f10) [1, 1, 1, 1, 0, 0]), .code (sub (codeOf Try.f10) [1, 1, 1, 1, 0, 1]), .code (sub (codeOf Try.f10) [1, 1, 1, 1, 1])]) (st' := ⟨mkT 87 [(3, .o 8 0 q), (4, .ex (.int .i64 0)), (5, .o 21 0 (q + 2)), (6, .ex (.int .i64 0))], [(8, .rowX 2 D), (21, .rowX 2 ([Value.int .i64 4, Value.complex FloatKind.f64 0 4625196817309499392, Value.int .i64 5, Value.complex FloatKind.f64 4625196817309499392 4625196817309499392] ++ C))], 22⟩) (by kernel_rfl) (by kernel_rfl) ?_
  refine AG.gk [] [(11, { val := .ex (.int .i64 (↑(q + 2) : Int)) }), (12, { val := .ex (.bool false) })] [3, 5, 40] [8, 21] 22 (st' := ⟨mkT 87 [(3, .o 8 0 q), (5, .o 21 0 (q + 2)), (40, .ex (.bool false))], [(8, .rowX 2 D), (21, .rowX 2 ([Value.int .i64 4, Value.complex FloatKind.f64 0 4625196817309499392, Value.int .i64 5, Value.complex FloatKind.f64 4625196817309499392 4625196817309499392] ++ C))], 22⟩) (obs := [Ob.eq (.ex (.int .i64 (IntKind.wrap .i64 ((↑q : Int) + 2)))) (.ex (.int .i64 (↑(q + 2) : Int))), Ob.eq (.ex (.bool ((↑(q + 2) : Int) != (↑(q + 2) : Int)))) (.ex (.bool false))]) (by kernel_rfl) (by kernel_rfl) ⟨(by simp only [Ob.holds, i1]), (by simp only [Ob.holds, i2]), trivial⟩ ?_
  refine AG.rk 4 [3, 5] [8, 21] 22 (todo' := [.code (sub (codeOf Try.f10) [1, 1, 1, 1, 1, 0, 0]), .code (sub (codeOf Try.f10) [1, 1, 1, 1, 1, 0, 1]), .code (sub (codeOf Try.f10) [1, 1, 1, 1, 1, 1])]) (st' := ⟨mkT 87 [(3, .o 8 0 q), (5, .o 21 0 (q + 2))], [(8, .rowX 2 D), (21, .rowX 2 ([Value.int .i64 4, Value.complex FloatKind.f64 0 4625196817309499392, Value.int .i64 5, Value.complex FloatKind.f64 4625196817309499392 4625196817309499392] ++ C))], 22⟩) (by kernel_rfl) (by kernel_rfl) ?_
  refine AG.gk [1, 7] [] [3, 5, 52] [8, 21] 22 (st' := ⟨mkT 87 [(3, .o 8 0 q), (5, .o 21 0 (q + 2)), (52, .ex (.bool false))], [(8, .rowX 2 D), (21, .rowX 2 ([Value.int .i64 4, Value.complex FloatKind.f64 0 4625196817309499392, Value.int .i64 5, Value.complex FloatKind.f64 4625196817309499392 4625196817309499392] ++ C))], 22⟩) (obs := [Ob.ix 0 (q + 2), Ob.ix 1 (q + 2)]) (by kernel_rfl) (by kernel_rfl) ⟨(by (simp only [Ob.holds]; omega)), (by (simp only [Ob.holds]; omega)), trivial⟩ ?_
  refine AG.rk 6 [3, 5, 7] [8, 21] 22 (todo' := [.code (sub (codeOf Try.f10) [1, 1, 1, 1, 1, 1, 0, 1, 0]), .inBlock 0, .code (sub (codeOf Try.f10) [1, 1, 1, 1, 1, 1, 1])]) (st' := ⟨mkT 87 [(3, .o 8 0 q), (5, .o 21 0 (q + 2)), (7, .ex (.int .i64 0))], [(8, .rowX 2 D), (21, .rowX 2 ([Value.int .i64 4, Value.complex FloatKind.f64 0 4625196817309499392, Value.int .i64 5, Value.complex FloatKind.f64 4625196817309499392 4625196817309499392] ++ C))], 22⟩) (by kernel_rfl) (by kernel_rfl) ?_
  refine AG.rk 1 [3, 5, 7] [8, 21] 22 (todo' := [.code (sub (codeOf Try.f10) [1, 1, 1, 1, 1, 1, 0, 1, 0, 0]), .inLoop (sub (codeOf Try.f10) [1, 1, 1, 1, 1, 1, 0, 1, 0, 0]), .inBlock 0, .code (sub (codeOf Try.f10) [1, 1, 1, 1, 1, 1, 1])]) (st' := ⟨mkT 87 [(3, .o 8 0 q), (5, .o 21 0 (q + 2)), (7, .ex (.int .i64 0))], [(8, .rowX 2 D), (21, .rowX 2 ([Value.int .i64 4, Value.complex FloatKind.f64 0 4625196817309499392, Value.int .i64 5, Value.complex FloatKind.f64 4625196817309499392 4625196817309499392] ++ C))], 22⟩) (by kernel_rfl) (by kernel_rfl) ?_
  obtain ⟨E, hE⟩ : ∃ E, E = [Value.int IntKind.i64 4, Value.complex FloatKind.f64 0 4625196817309499392, Value.int IntKind.i64 5, Value.complex FloatKind.f64 4625196817309499392 4625196817309499392] ++ C := ⟨_, rfl⟩
  have hE2 : E = pc ([(4, 0, 16), (5, 16, 16)] ++ L.map shp) := by
    rw [hE, pc_app, hC]
    congr 1
  rewrite [← hE]
  have hEl : E.length = 2 * (q + 2) := by rw [hE2, pc_len, hq]; simp
  have hDl : D.length = 2 * q := by rw [hD, pc_len, hq]
  refine AG.indE (α := {x : Nat // x ≤ q}) (fun x => q - x.1)
    (fun x => ⟨mkT 87 [(3, .o 8 0 q), (5, .o 21 0 (q + 2)), (7, .ex (.int .i64 (x.1 : Int)))], [(8, .rowX 2 D), (21, .rowX 2 E)], 22⟩) ⟨0, by omega⟩ (by kernel_rfl) ?_
  rintro ⟨i, hi⟩ ih
  simp only at hi ih ⊢
  refine AG.rk 3 [3, 5, 7, 56] [8, 21] 22 (todo' := [.code (sub (codeOf Try.f10) [1, 1, 1, 1, 1, 1, 0, 1, 0, 0, 0, 1]), .code (sub (codeOf Try.f10) [1, 1, 1, 1, 1, 1, 0, 1, 0, 0, 1]), .inLoop (sub (codeOf Try.f10) [1, 1, 1, 1, 1, 1, 0, 1, 0, 0]), .inBlock 0, .code (sub (codeOf Try.f10) [1, 1, 1, 1, 1, 1, 1])]) (st' := ⟨mkT 87 [(3, .o 8 0 q), (5, .o 21 0 (q + 2)), (7, .ex (.int .i64 (↑i : Int))), (56, .ex (.bool (decide ((↑i : Int) < (↑q : Int)))))], [(8, .rowX 2 D), (21, .rowX 2 E)], 22⟩) (by kernel_rfl) (by kernel_rfl) ?_
  refine AG.cond (b := decide ((↑i : Int) < (↑q : Int))) (by kernel_rfl) (fun hc => ?_) (fun hc => ?_)
  · have hi' : i < q := by simp at hc; omega
    clear hc
    obtain ⟨p, hp⟩ : ∃ p, L[i]? = some p := ⟨L[i], List.getElem?_eq_getElem (by omega)⟩
    have hpa := hall p (List.mem_of_getElem? hp)
    obtain ⟨k, a, s⟩ := p
    simp only at hpa
    have d0 := pc_get L i _ hp
    have d1 := pc_get ([(4, 0, 16), (5, 16, 16)] ++ L.map shp) (i + 2) (k, a + 32, s) (by rw [List.getElem?_append_right (by simp)]; simp [hp, shp])
    rw [← hD] at d0
    rw [← hE2] at d1
    simp only at d0 d1
    have v2 : IntKind.i64.wrap ((i : Int) + 2) = ((i + 2 : Nat) : Int) := by rw [wrap64_id _ (by omega) (by omega)]; omega
    have v5 : IntKind.i64.wrap ((i : Int) + 1) = ((i + 1 : Nat) : Int) := by rw [wrap64_id _ (by omega) (by omega)]; omega
    have k0 : D.getD (0 + (i : Int).toNat * 2 + 0) undef = .int .i64 (k : Int) := by rw [Int.toNat_natCast, List.getD_eq_getElem?_getD, show 0 + i * 2 + 0 = 2 * i by omega, d0.1]; rfl
    have k1 : D.getD (0 + (i : Int).toNat * 2 + 1) undef = .complex .f64 (fb a) (fb s) := by rw [Int.toNat_natCast, List.getD_eq_getElem?_getD, show 0 + i * 2 + 1 = 2 * i + 1 by omega, d0.2]; rfl
    have k2 : E.getD (0 + ((i + 2 : Nat) : Int).toNat * 2 + 0) undef = .int .i64 (k : Int) := by rw [Int.toNat_natCast, List.getD_eq_getElem?_getD, show 0 + (i + 2) * 2 + 0 = 2 * (i + 2) by omega, d1.1]; rfl
    have k3 : E.getD (0 + ((i + 2 : Nat) : Int).toNat * 2 + 1) undef = .complex .f64 (fb (a + 32)) (fb s) := by rw [Int.toNat_natCast, List.getD_eq_getElem?_getD, show 0 + (i + 2) * 2 + 1 = 2 * (i + 2) + 1 by omega, d1.2]; rfl
    have a0 := getD_add a 32 (by omega)
    have a1 := fok_add a 32 (by omega)
    have a2 := getD_add s 0 (by omega)
    have a3 := fok_add s 0 (by omega)
    rw [fb_lit32] at a0 a1
    rw [fb_lit0] at a2 a3
    rw [Nat.add_zero] at a2
    have o1 := eq_fb (a + 32) (a + 32) (by omega) (by omega)
    have o2 := eq_fb s s (by omega) (by omega)
    rw [decide_eq_true rfl] at o1 o2
    have n1 : ((k : Int) != (k : Int)) = false := by simp
    have ih1 := ih ⟨i + 1, by omega⟩ (by simp only; omega)
    simp only at ih1
    generalize fb (a + 32) = xa at *
    generalize fb a = ya at *
    generalize fb s = ys at *
    clear d0 d1 hp
    refine AG.rk 4 [3, 5, 7] [8, 21] 22 (todo' := [.code (sub (codeOf Try.f10) [1, 1, 1, 1, 1, 1, 0, 1, 0, 0, 1, 0, 0, 0]), .code (sub (codeOf Try.f10) [1, 1, 1, 1, 1, 1, 0, 1, 0, 0, 1, 0, 0, 1]), .inBlock 1, .code (sub (codeOf Try.f10) [1, 1, 1, 1, 1, 1, 0, 1, 0, 0, 1, 1]), .inLoop (sub (codeOf Try.f10) [1, 1, 1, 1, 1, 1, 0, 1, 0, 0]), .inBlock 0, .code (sub (codeOf Try.f10) [1, 1, 1, 1, 1, 1, 1])]) (st' := ⟨mkT 87 [(3, .o 8 0 q), (5, .o 21 0 (q + 2)), (7, .ex (.int .i64 (↑i : Int)))], [(8, .rowX 2 D), (21, .rowX 2 E)], 22⟩) (by kernel_rfl) (by kernel_rfl) ?_
    refine AG.gk [3, 8, 16, 21] [(2, { val := .ex (.int .i64 (↑(i + 2) : Int)) }), (5, { val := .ex (.int .i64 (↑k : Int)) }), (10, { val := .ex (.int .i64 (↑k : Int)) }), (11, { val := .ex (.bool false) }), (15, { val := .ex (.int .i64 (↑(i + 2) : Int)) }), (18, { val := .ex (.complex FloatKind.f64 xa ys) }), (23, { val := .ex (.complex FloatKind.f64 ya ys) }), (24, { val := .ex (.complex FloatKind.f64 xa ys) }), (25, { val := .ex (.bool false) })] [3, 5, 7, 85] [8, 21] 22 (st' := ⟨mkT 87 [(3, .o 8 0 q), (5, .o 21 0 (q + 2)), (7, .ex (.int .i64 (↑i : Int))), (85, .ex (.bool false))], [(8, .rowX 2 D), (21, .rowX 2 E)], 22⟩) (obs := [Ob.eq (.ex (.int .i64 (IntKind.wrap .i64 ((↑i : Int) + 2)))) (.ex (.int .i64 (↑(i + 2) : Int))), Ob.ix (↑(i + 2) : Int) (q + 2), Ob.eq (.ex (List.getD E (0 + Int.toNat (↑(i + 2) : Int) * 2 + 0) undef)) (.ex (.int .i64 (↑k : Int))), Ob.le (0 + Int.toNat (↑(i + 2) : Int) * 2 + 0 + 1) (List.length E), Ob.ix (↑i : Int) q, Ob.eq (.ex (List.getD D (0 + Int.toNat (↑i : Int) * 2 + 0) undef)) (.ex (.int .i64 (↑k : Int))), Ob.le (0 + Int.toNat (↑i : Int) * 2 + 0 + 1) (List.length D), Ob.eq (.ex (.bool ((↑k : Int) != (↑k : Int)))) (.ex (.bool false)), Ob.eq (.ex (.int .i64 (IntKind.wrap .i64 ((↑i : Int) + 2)))) (.ex (.int .i64 (↑(i + 2) : Int))), Ob.ix (↑(i + 2) : Int) (q + 2), Ob.eq (.ex (List.getD E (0 + Int.toNat (↑(i + 2) : Int) * 2 + 1) undef)) (.ex (.complex FloatKind.f64 xa ys)), Ob.le (0 + Int.toNat (↑(i + 2) : Int) * 2 + 1 + 1) (List.length E), Ob.ix (↑i : Int) q, Ob.eq (.ex (List.getD D (0 + Int.toNat (↑i : Int) * 2 + 1) undef)) (.ex (.complex FloatKind.f64 ya ys)), Ob.le (0 + Int.toNat (↑i : Int) * 2 + 1 + 1) (List.length D), Ob.eq (.ex (.complex FloatKind.f64 (Option.getD (floatBits BinOp.add FloatKind.f64 ya 4629700416936869888) 0) (Option.getD (floatBits BinOp.add FloatKind.f64 ys 0) 0))) (.ex (.complex FloatKind.f64 xa ys)), Ob.le 1 (fok (floatBits BinOp.add FloatKind.f64 ya 4629700416936869888)), Ob.le 1 (fok (floatBits BinOp.add FloatKind.f64 ys 0)), Ob.eq (.ex (.bool !(Ieee.Format.order (FloatKind.format FloatKind.f64) xa xa == some Ordering.eq && Ieee.Format.order (FloatKind.format FloatKind.f64) ys ys == some Ordering.eq))) (.ex (.bool false))]) (by kernel_rfl) (by kernel_rfl) ⟨(by simp only [Ob.holds, v2]), (by (simp only [Ob.holds]; omega)), (by simp only [Ob.holds, k2]), (by (simp only [Ob.holds]; omega)), (by (simp only [Ob.holds]; omega)), (by simp only [Ob.holds, k0]), (by (simp only [Ob.holds]; omega)), (by simp only [Ob.holds, n1]), (by simp only [Ob.holds, v2]), (by (simp only [Ob.holds]; omega)), (by simp only [Ob.holds, k3]), (by (simp only [Ob.holds]; omega)), (by (simp only [Ob.holds]; omega)), (by simp only [Ob.holds, k1]), (by (simp only [Ob.holds]; omega)), (by simp only [Ob.holds, v2, k0, k1, k2, k3, a0, a2, n1, o1, o2]), (by (simp only [Ob.holds]; omega)), (by (simp only [Ob.holds]; omega)), (by first | (simp only [Ob.holds, v2, k0, k1, k2, k3, a0, a2, n1, o1, o2]; done) | (simp only [Ob.holds, v2, k0, k1, k2, k3, a0, a2, n1, o1, o2]; rfl)), trivial⟩ ?_
    refine AG.rk 5 [3, 5, 7] [8, 21] 22 (todo' := [.code (sub (codeOf Try.f10) [1, 1, 1, 1, 1, 1, 0, 1, 0, 0]), .inLoop (sub (codeOf Try.f10) [1, 1, 1, 1, 1, 1, 0, 1, 0, 0]), .inBlock 0, .code (sub (codeOf Try.f10) [1, 1, 1, 1, 1, 1, 1])]) (st' := ⟨mkT 87 [(3, .o 8 0 q), (5, .o 21 0 (q + 2)), (7, .ex (.int .i64 (IntKind.wrap .i64 ((↑i : Int) + 1))))], [(8, .rowX 2 D), (21, .rowX 2 E)], 22⟩) (by kernel_rfl) (by kernel_rfl) ?_
    rewrite [v5]
    exact ih1
  · clear hc ih
    refine AG.rk 2 [] [] 0 (todo' := [.code (sub (codeOf Try.f10) [1, 1, 1, 1, 1, 1, 1, 0]), .code (sub (codeOf Try.f10) [1, 0, 1, 0, 1])]) (st' := ⟨mkT 87 [], [], 0⟩) (by kernel_rfl) (by kernel_rfl) ?_
    refine AG.gk [] [(0, { val := .ex (.bool true) })] [2] [] 0 (st' := ⟨mkT 87 [(2, .ex (.bool true))], [], 0⟩) (obs := [Ob.call (fun g => List.lookup g []) 13 [] [] { val := .ex (.bool true) }]) (by kernel_rfl) (by kernel_rfl) ⟨((Go.Proofs.Ytngmlkkcjjfiaaa.Ab.awake_ok ).gl), trivial⟩ ?_
    refine AG.fin ([.ex (.bool true)]) Go.Proofs.Try.f10 fn10 (.inr ⟨_, rfl⟩) (obs := []) (by kernel_rfl) trivial (by kernel_rfl) trivial (by kernel_rfl)
end Go.Proofs.Ytngmlkkcjjfiaaa.Ab
