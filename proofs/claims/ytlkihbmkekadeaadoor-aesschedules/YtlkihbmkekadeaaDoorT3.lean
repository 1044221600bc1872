/- Own: keys of layer 13's statements, and bytes with the stream (no statement is proved here). -/
import Derived.Test.YtlkihbmkekadeaaDoorT2
import Derived.Test.YtlkihbmkekadeaaDoorAZero
import Derived.KernelRfl
namespace Go.Proofs.YtlkihbmkekadeaaDoor.Ab
open Go.Proofs
set_option linter.unusedSimpArgs false
set_option linter.unusedVariables false
set_option maxRecDepth 4000
-- AGLIM=3
/-- A key of the statements, as a value. -/
def zV (z : Nat → Int) (sz : Int) : Value := .agg (ar8 32 z ++ [Value.int .u8 sz]).toArray
theorem fn30 : Tryd.prog.funcs[30]? = some Tryd.f30 := by kernel_rfl
theorem zb13_0 (z : Nat → Int) (sz : Int) (e0 : sz.tmod 3 = 0) : CallOK Tryd.prog (fun _ => none) 30 [.ex (zV z sz)] [] { val := .o 0 0 16, upd := [(0, .row (ar8 16 z))], nks := [0] } := by
  refine CallOK.from0 hmix Tryd.f30 0 fn30 (by kernel_rfl) (by kernel_rfl) (fun w ρ h1 h2 => ?_)
  refine AG.rs 6 [([], []), ([], [(2, { val := .ex (.int .u8 0) })]), ([], [])] [2] [52] 53 (todo' := [.code (sub (codeOf Tryd.f30) [1, 1, 1])]) (st' := ⟨mkT 15 [(2, .o 52 0 16)], [(52, .row (ar8 16 z))], 53⟩) (obs := [Ob.eq (.ex (.int .u8 (Int.tmod sz 3))) (.ex (.int .u8 0)), Ob.le 1 3]) (by kernel_rfl) (by kernel_rfl) ⟨(by simp only [Ob.holds, e0]), (Ob.holds_of_dec (by kernel_rfl)), trivial⟩ ?_
  refine AG.ren 52 0 (st' := ⟨mkT 15 [(2, .o 0 0 16)], [(0, .row (ar8 16 z))], 53⟩) (by kernel_rfl) (by kernel_rfl) ?_
  refine AG.fin ([.o 0 0 16]) Go.Proofs.Tryd.f30 fn30 (.inr ⟨_, rfl⟩) (obs := []) (by kernel_rfl) trivial (by kernel_rfl) ⟨(by kernel_rfl), trivial⟩ (by kernel_rfl)
theorem zb13_1 (z : Nat → Int) (sz : Int) (e0 : sz.tmod 3 = 1) : CallOK Tryd.prog (fun _ => none) 30 [.ex (zV z sz)] [] { val := .o 0 0 24, upd := [(0, .row (ar8 24 z))], nks := [0] } := by
  refine CallOK.from0 hmix Tryd.f30 0 fn30 (by kernel_rfl) (by kernel_rfl) (fun w ρ h1 h2 => ?_)
  refine AG.rs 6 [([], []), ([], [(2, { val := .ex (.int .u8 1) })]), ([], [])] [2] [52] 53 (todo' := [.code (sub (codeOf Tryd.f30) [1, 1, 1])]) (st' := ⟨mkT 15 [(2, .o 52 0 24)], [(52, .row (ar8 24 z))], 53⟩) (obs := [Ob.eq (.ex (.int .u8 (Int.tmod sz 3))) (.ex (.int .u8 1)), Ob.le 1 3]) (by kernel_rfl) (by kernel_rfl) ⟨(by simp only [Ob.holds, e0]), (Ob.holds_of_dec (by kernel_rfl)), trivial⟩ ?_
  refine AG.ren 52 0 (st' := ⟨mkT 15 [(2, .o 0 0 24)], [(0, .row (ar8 24 z))], 53⟩) (by kernel_rfl) (by kernel_rfl) ?_
  refine AG.fin ([.o 0 0 24]) Go.Proofs.Tryd.f30 fn30 (.inr ⟨_, rfl⟩) (obs := []) (by kernel_rfl) trivial (by kernel_rfl) ⟨(by kernel_rfl), trivial⟩ (by kernel_rfl)
theorem zb13_2 (z : Nat → Int) (sz : Int) (e0 : sz.tmod 3 = 2) : CallOK Tryd.prog (fun _ => none) 30 [.ex (zV z sz)] [] { val := .o 0 0 32, upd := [(0, .row (ar8 32 z))], nks := [0] } := by
  refine CallOK.from0 hmix Tryd.f30 0 fn30 (by kernel_rfl) (by kernel_rfl) (fun w ρ h1 h2 => ?_)
  refine AG.rs 6 [([], []), ([], [(2, { val := .ex (.int .u8 2) })]), ([], [])] [2] [52] 53 (todo' := [.code (sub (codeOf Tryd.f30) [1, 1, 1])]) (st' := ⟨mkT 15 [(2, .o 52 0 32)], [(52, .row (ar8 32 z))], 53⟩) (obs := [Ob.eq (.ex (.int .u8 (Int.tmod sz 3))) (.ex (.int .u8 2)), Ob.le 1 3]) (by kernel_rfl) (by kernel_rfl) ⟨(by simp only [Ob.holds, e0]), (Ob.holds_of_dec (by kernel_rfl)), trivial⟩ ?_
  refine AG.ren 52 0 (st' := ⟨mkT 15 [(2, .o 0 0 32)], [(0, .row (ar8 32 z))], 53⟩) (by kernel_rfl) (by kernel_rfl) ?_
  refine AG.fin ([.o 0 0 32]) Go.Proofs.Tryd.f30 fn30 (.inr ⟨_, rfl⟩) (obs := []) (by kernel_rfl) trivial (by kernel_rfl) ⟨(by kernel_rfl), trivial⟩ (by kernel_rfl)
theorem zb13 (z : Nat → Int) (sz : Int) (h : R8 sz) : ∃ n : Nat, (n = 16 ∨ n = 24 ∨ n = 32) ∧ CallOK Tryd.prog (fun _ => none) 30 [.ex (zV z sz)] [] { val := .o 0 0 n, upd := [(0, .row (ar8 n z))], nks := [0] } := by
  unfold R8 at h
  have hm : sz.tmod 3 = 0 ∨ sz.tmod 3 = 1 ∨ sz.tmod 3 = 2 := by rw [Int.tmod_eq_emod_of_nonneg (by omega)]; omega
  rcases hm with e | e | e
  · exact ⟨16, .inl rfl, zb13_0 z sz e⟩
  · exact ⟨24, .inr (.inl rfl), zb13_1 z sz e⟩
  · exact ⟨32, .inr (.inr rfl), zb13_2 z sz e⟩
theorem nrnd_ok {n : Nat} (h : n = 16 ∨ n = 24 ∨ n = 32) : 0 < nrnd n ∧ nrnd n < 15 := by
  rcases h with h | h | h <;> rw [h] <;> decide
theorem all8_rng {n : Nat} {z : Nat → Int} (h : ∀ i, i < n → R8 (z i)) : All8 ((List.range n).map z) := fun x hx => by
  obtain ⟨i, hi, rfl⟩ := List.mem_map.1 hx
  exact h i (by simpa using hi)
theorem expandr_ok {tb : List Value} (ht : tb = tabC) (n : Nat) (z : Nat → Int) (h8 : ∀ i, i < n → R8 (z i)) (hl : n = 16 ∨ n = 24 ∨ n = 32) : CallOK Tryd.prog (fun _ => none) 14 [.p 0 0, .sv 1 0 n] [(0, .own tb), (1, .view (ar8 n z))]
    { val := .tup [.p 2 0, .ex (.int .i64 0)], upd := [(2, .mix (.p 0 0 :: .ex (.int .i64 (nrnd n : Int)) :: (ar8 240 (kI ((List.range n).map z))).map .ex))], nks := [2] } := by
  have h := expand_ok ht ((List.range n).map z) (all8_rng h8) (by simpa using hl)
  rw [mapr8, List.length_map, List.length_range] at h
  exact h
def glM : List (Nat × Nat) := [(0, 0), (1, 1)]
theorem fn32 : Tryd.prog.funcs[32]? = some Tryd.f32 := by kernel_rfl
theorem zk13 {mx um : List Value} (hm : mx = mixL.map (Value.int .u8)) (hu : um = unmL.map (Value.int .u8)) (z : Nat → Int) (hz : ∀ i, i < 32 → R8 (z i)) (sz : Int) (h : R8 sz) {tb : List Value} (ht : tb = tabC) : ∃ n : Nat, (n = 16 ∨ n = 24 ∨ n = 32) ∧ CallOK Tryd.prog (fun g => [(0, 0), (1, 1)].lookup g) 32 [.ex (zV z sz)] [(0, .view mx), (1, .view um)]
    { val := .p 2 0, upd := [(2, .mix (.p 3 0 :: .ex (.int .i64 (nrnd n : Int)) :: (ar8 240 (kI ((List.range n).map z))).map .ex)), (3, .own tb)], nks := [2, 3] } := by
  obtain ⟨n, hn, cb⟩ := zb13 z sz h
  refine ⟨n, hn, ?_⟩
  have ce := expandr_ok ht n z (fun i hi => hz i (by omega)) hn
  generalize kI ((List.range n).map z) = F at *
  obtain ⟨r, hr⟩ : ∃ r, r = nrnd n := ⟨_, rfl⟩
  rw [← hr] at ce ⊢
  obtain ⟨bx, hx⟩ : ∃ bx, bx = bxC := ⟨_, rfl⟩
  have cm := make_ok hx
  have cn := new_ok hm hu hx ht
  refine CallOK.from hmix Tryd.f32 2 fn32 (by kernel_rfl) (by kernel_rfl) (fun w ρ h1 h2 => ?_)
  refine AG.rs 6 [([], []), ([], [(0, useR [] 10 ({ val := .p 0 0, upd := [(0, .own bx)], nks := [0] })), (1, useR [(0, 10, 0), (1, 0, 0), (2, 1, 0)] 14 ({ val := .p 3 0, upd := [(3, .own tb)], nks := [3] })), (3, useR [] 22 ({ val := .o 0 0 n, upd := [(0, .row (ar8 n z))], nks := [0] })), (4, useR [(0, 14, 0), (1, 22, 0)] 26 ({ val := .tup [.p 2 0, .ex (.int .i64 0)], upd := [(2, .mix (.p 0 0 :: .ex (.int .i64 (↑r : Int)) :: List.map .ex (ar8 240 F)))], nks := [2] }))]), ([], [])] [2] [0, 1, 14, 26] 27 (todo' := [.code (sub (codeOf Tryd.f32) [1, 1, 1])]) (st' := ⟨mkT 14 [(2, .p 26 0)], [(0, .view mx), (1, .view um), (14, .own tb), (26, .mix ([.p 14 0, .ex (.int .i64 (↑r : Int))] ++ List.map .ex (ar8 240 F)))], 27⟩) (obs := [Ob.call (fun g => List.lookup g [(0, 0), (1, 1)]) 39 [] [] (useR [] 10 { val := .p 0 0, upd := [(0, .own bx)], nks := [0] }), Ob.call (fun g => List.lookup g [(0, 0), (1, 1)]) 38 [.p 10 0] [(10, .own bx), (0, .view mx), (1, .view um)] (useR [(0, 10, 0), (1, 0, 0), (2, 1, 0)] 14 { val := .p 3 0, upd := [(3, .own tb)], nks := [3] }), Ob.call (fun g => List.lookup g [(0, 0), (1, 1)]) 30 [.ex (.agg { toList := [Value.int .u8 (z 0), Value.int .u8 (z 1), Value.int .u8 (z 2), Value.int .u8 (z 3), Value.int .u8 (z 4), Value.int .u8 (z 5), Value.int .u8 (z 6), Value.int .u8 (z 7), Value.int .u8 (z 8), Value.int .u8 (z 9), Value.int .u8 (z 10), Value.int .u8 (z 11), Value.int .u8 (z 12), Value.int .u8 (z 13), Value.int .u8 (z 14), Value.int .u8 (z 15), Value.int .u8 (z 16), Value.int .u8 (z 17), Value.int .u8 (z 18), Value.int .u8 (z 19), Value.int .u8 (z 20), Value.int .u8 (z 21), Value.int .u8 (z 22), Value.int .u8 (z 23), Value.int .u8 (z 24), Value.int .u8 (z 25), Value.int .u8 (z 26), Value.int .u8 (z 27), Value.int .u8 (z 28), Value.int .u8 (z 29), Value.int .u8 (z 30), Value.int .u8 (z 31), Value.int .u8 sz] })] [] (useR [] 22 { val := .o 0 0 n, upd := [(0, .row (ar8 n z))], nks := [0] }), Ob.call (fun g => List.lookup g [(0, 0), (1, 1)]) 14 [.p 14 0, .o 22 0 n] [(14, .own tb), (22, .row (ar8 n z))] (useR [(0, 14, 0), (1, 22, 0)] 26 { val := .tup [.p 2 0, .ex (.int .i64 0)], upd := [(2, .mix (.p 0 0 :: .ex (.int .i64 (↑r : Int)) :: List.map .ex (ar8 240 F)))], nks := [2] })]) (by kernel_rfl) (by kernel_rfl) ⟨(CallOK.at0 [] 10 (cm ) .nil .nil (by kernel_rfl)), (CallOK.at [(0, 10, 0), (1, 0, 0), (2, 1, 0)] 14 (cn ) (.cons (.p rfl) .nil) (.cons rfl rfl ⟨rfl, rfl⟩ (.cons rfl rfl ⟨_, rfl, (by exact cov_all _)⟩ (.cons rfl rfl ⟨_, rfl, (by exact cov_all _)⟩ .nil))) (by kernel_rfl)), (CallOK.at0 [] 22 (cb ) (.cons (.ex _) .nil) .nil (by kernel_rfl)), (CallOK.at0 [(0, 14, 0), (1, 22, 0)] 26 (ce ) (.cons (.p rfl) (.cons (.vo rfl) .nil)) (.cons rfl rfl ⟨rfl, rfl⟩ (.cons rfl rfl ⟨_, rfl, (by exact cov_all _)⟩ .nil)) (by kernel_rfl)), trivial⟩ ?_
  refine AG.ren 26 2 (st' := ⟨mkT 14 [(2, .p 2 0)], [(0, .view mx), (1, .view um), (14, .own tb), (2, .mix ([.p 14 0, .ex (.int .i64 (↑r : Int))] ++ List.map .ex (ar8 240 F)))], 27⟩) (by kernel_rfl) (by kernel_rfl) ?_
  refine AG.ren 14 3 (st' := ⟨mkT 14 [(2, .p 2 0)], [(0, .view mx), (1, .view um), (3, .own tb), (2, .mix ([.p 3 0, .ex (.int .i64 (↑r : Int))] ++ List.map .ex (ar8 240 F)))], 27⟩) (by kernel_rfl) (by kernel_rfl) ?_
  refine AG.fin ([.p 2 0]) Go.Proofs.Tryd.f32 fn32 (.inr ⟨_, rfl⟩) (obs := []) (by kernel_rfl) trivial (by kernel_rfl) ⟨(by kernel_rfl), (by kernel_rfl), trivial⟩ (by kernel_rfl)
end Go.Proofs.YtlkihbmkekadeaaDoor.Ab
