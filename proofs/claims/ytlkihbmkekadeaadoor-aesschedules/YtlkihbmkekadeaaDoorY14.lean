/- Own: the law AesSchedules followed (no statement is proved here). -/
import Derived.Test.YtlkihbmkekadeaaDoorY8
import Derived.Test.YtlkihbmkekadeaaDoorY9
import Derived.KernelRfl
namespace Go.Proofs.YtlkihbmkekadeaaDoor.Ab
open Go.Proofs
set_option linter.unusedSimpArgs false
set_option linter.unusedVariables false
set_option maxRecDepth 4000
-- AGLIM=3
theorem fn3 : Tryd.prog.funcs[3]? = some Tryd.f3 := by kernel_rfl
theorem fn36 : Tryd.prog.funcs[36]? = some Tryd.f36 := by kernel_rfl
theorem fn14 : Tryd.prog.funcs[14]? = some Tryd.f14 := by kernel_rfl
theorem fn18 : Tryd.prog.funcs[18]? = some Tryd.f18 := by kernel_rfl
theorem fn17 : Tryd.prog.funcs[17]? = some Tryd.f17 := by kernel_rfl
theorem fn16 : Tryd.prog.funcs[16]? = some Tryd.f16 := by kernel_rfl
theorem roundsno_ok (n : Nat) (h : ¬ (n = 16 ∨ n = 24 ∨ n = 32)) : CallOK Tryd.prog (fun _ => none) 36 [.ex (.int .i64 (n : Int))] [] { val := .ex (.int .i64 0) } := by
  have g1 : ((n : Int) == 32) = false := by simp; omega
  have g2 : ((n : Int) == 24) = false := by simp; omega
  have g3 : ((n : Int) == 16) = false := by simp; omega
  refine CallOK.from0 hmix Tryd.f36 0 fn36 (by kernel_rfl) (by kernel_rfl) (fun w ρ h1 h2 => ?_)
  refine AG.rs 27 [([], []), ([], []), ([], []), ([], [(0, { val := .ex (.bool false) })]), ([], [(0, { val := .ex (.bool false) })]), ([], [(0, { val := .ex (.bool false) })])] [3, 9] [] 0 (todo' := [.code (sub (codeOf Tryd.f36) [1, 1, 0, 1, 0, 0, 0, 0, 0, 0, 0, 0, 1, 1, 1]), .code (sub (codeOf Tryd.f36) [1, 1, 0, 1, 0, 0, 0, 0, 0, 0, 0, 1]), .inBlock 1, .code (sub (codeOf Tryd.f36) [1, 1, 0, 1, 0, 0, 0, 0, 0, 1]), .inBlock 2, .code (sub (codeOf Tryd.f36) [1, 1, 0, 1, 0, 0, 0, 1]), .inBlock 3, .code (sub (codeOf Tryd.f36) [1, 1, 0, 1, 0, 1]), .inBlock 0, .code (sub (codeOf Tryd.f36) [1, 1, 1])]) (st' := ⟨mkT 18 [(3, .ex (.int .i64 0)), (9, .ex (.bool false))], [], 0⟩) (obs := [Ob.eq (.ex (.bool ((↑n : Int) == 32))) (.ex (.bool false)), Ob.eq (.ex (.bool ((↑n : Int) == 24))) (.ex (.bool false)), Ob.eq (.ex (.bool ((↑n : Int) == 16))) (.ex (.bool false))]) (by kernel_rfl) (by kernel_rfl) ⟨(by simp only [Ob.holds, g1]), (by simp only [Ob.holds, g2]), (by simp only [Ob.holds, g3]), trivial⟩ ?_
  refine AG.rk 5 [2] [] 0 (todo' := [.code (sub (codeOf Tryd.f36) [1, 1, 1, 1])]) (st' := ⟨mkT 18 [(2, .ex (.int .i64 0))], [], 0⟩) (by kernel_rfl) (by kernel_rfl) ?_
  refine AG.fin ([.ex (.int .i64 0)]) Go.Proofs.Tryd.f36 fn36 (.inr ⟨_, rfl⟩) (obs := []) (by kernel_rfl) trivial (by kernel_rfl) trivial (by kernel_rfl)
theorem rightno_ok (n : Nat) (h : ¬ (n = 16 ∨ n = 24 ∨ n = 32)) : CallOK Tryd.prog (fun _ => none) 16 [.ex (.int .i64 (n : Int))] [] { val := .ex (.bool false) } := by
  have g1 : ((n : Int) == 32) = false := by simp; omega
  have g2 : ((n : Int) == 24) = false := by simp; omega
  have g3 : ((n : Int) == 16) = false := by simp; omega
  refine CallOK.from0 hmix Tryd.f16 0 fn16 (by kernel_rfl) (by kernel_rfl) (fun w ρ h1 h2 => ?_)
  refine AG.rs 4 [([], []), ([], [(1, { val := .ex (.bool false) }), (4, { val := .ex (.bool false) }), (8, { val := .ex (.bool false) })])] [2] [] 0 (todo' := [.code (sub (codeOf Tryd.f16) [1, 1])]) (st' := ⟨mkT 13 [(2, .ex (.bool false))], [], 0⟩) (obs := [Ob.eq (.ex (.bool ((↑n : Int) == 16))) (.ex (.bool false)), Ob.eq (.ex (.bool ((↑n : Int) == 24))) (.ex (.bool false)), Ob.eq (.ex (.bool ((↑n : Int) == 32))) (.ex (.bool false))]) (by kernel_rfl) (by kernel_rfl) ⟨(by simp only [Ob.holds, g3]), (by simp only [Ob.holds, g2]), (by simp only [Ob.holds, g1]), trivial⟩ ?_
  refine AG.fin ([.ex (.bool false)]) Go.Proofs.Tryd.f16 fn16 (.inr ⟨_, rfl⟩) (obs := []) (by kernel_rfl) trivial (by kernel_rfl) trivial (by kernel_rfl)
theorem rightyes_ok (n : Nat) (h : n = 16 ∨ n = 24 ∨ n = 32) : CallOK Tryd.prog (fun _ => none) 16 [.ex (.int .i64 (n : Int))] [] { val := .ex (.bool true) } := by
  rcases h with rfl | rfl | rfl
  · refine CallOK.from0 hmix Tryd.f16 0 fn16 (by kernel_rfl) (by kernel_rfl) (fun w ρ h1 h2 => ?_)
    refine AG.rk 4 [2] [] 0 (todo' := [.code (sub (codeOf Tryd.f16) [1, 1])]) (st' := ⟨mkT 13 [(2, .ex (.bool true))], [], 0⟩) (by kernel_rfl) (by kernel_rfl) ?_
    refine AG.fin ([.ex (.bool true)]) Go.Proofs.Tryd.f16 fn16 (.inr ⟨_, rfl⟩) (obs := []) (by kernel_rfl) trivial (by kernel_rfl) trivial (by kernel_rfl)
  · refine CallOK.from0 hmix Tryd.f16 0 fn16 (by kernel_rfl) (by kernel_rfl) (fun w ρ h1 h2 => ?_)
    refine AG.rk 4 [2] [] 0 (todo' := [.code (sub (codeOf Tryd.f16) [1, 1])]) (st' := ⟨mkT 13 [(2, .ex (.bool true))], [], 0⟩) (by kernel_rfl) (by kernel_rfl) ?_
    refine AG.fin ([.ex (.bool true)]) Go.Proofs.Tryd.f16 fn16 (.inr ⟨_, rfl⟩) (obs := []) (by kernel_rfl) trivial (by kernel_rfl) trivial (by kernel_rfl)
  · refine CallOK.from0 hmix Tryd.f16 0 fn16 (by kernel_rfl) (by kernel_rfl) (fun w ρ h1 h2 => ?_)
    refine AG.rk 4 [2] [] 0 (todo' := [.code (sub (codeOf Tryd.f16) [1, 1])]) (st' := ⟨mkT 13 [(2, .ex (.bool true))], [], 0⟩) (by kernel_rfl) (by kernel_rfl) ?_
    refine AG.fin ([.ex (.bool true)]) Go.Proofs.Tryd.f16 fn16 (.inr ⟨_, rfl⟩) (obs := []) (by kernel_rfl) trivial (by kernel_rfl) trivial (by kernel_rfl)
theorem expnil_ok (n : Nat) (cs : List Value) : CallOK Tryd.prog (fun _ => none) 14 [.ex (.pointer none), .sv 0 0 n] [(0, .view cs)] { val := .tup [.ex (.pointer none), .ex (.int .i64 1)] } := by
  refine CallOK.from0 hmix Tryd.f14 1 fn14 (by kernel_rfl) (by kernel_rfl) (fun w ρ h1 h2 => ?_)
  refine AG.rk 8 [4, 5] [0] 1 (todo' := [.code (sub (codeOf Tryd.f14) [1, 0, 1, 0, 1]), .code (sub (codeOf Tryd.f14) [1, 1])]) (st' := ⟨mkT 45 [(4, .ex (.pointer none)), (5, .ex (.int .i64 1))], [(0, .view cs)], 1⟩) (by kernel_rfl) (by kernel_rfl) ?_
  refine AG.fin ([.ex (.pointer none), .ex (.int .i64 1)]) Go.Proofs.Tryd.f14 fn14 (.inr ⟨_, rfl⟩) (obs := []) (by kernel_rfl) trivial (by kernel_rfl) trivial (by kernel_rfl)
theorem expwrong_ok (tb : List Value) (n : Nat) (h : ¬ (n = 16 ∨ n = 24 ∨ n = 32)) (cs : List Value) : CallOK Tryd.prog (fun _ => none) 14 [.p 0 0, .sv 1 0 n] [(0, .own tb), (1, .view cs)] { val := .tup [.ex (.pointer none), .ex (.int .i64 2)], upd := [(0, .own tb)], wks := [0] } := by
  have cr := roundsno_ok n h
  refine CallOK.from0 hmix Tryd.f14 2 fn14 (by kernel_rfl) (by kernel_rfl) (fun w ρ h1 h2 => ?_)
  refine AG.rs 15 [([], []), ([], []), ([], [(2, { val := .ex (.int .i64 0) })]), ([], []), ([], [])] [4, 5] [0, 1] 2 (todo' := [.code (sub (codeOf Tryd.f14) [1, 0, 1, 0, 1]), .code (sub (codeOf Tryd.f14) [1, 1, 1, 1])]) (st' := ⟨mkT 45 [(4, .ex (.pointer none)), (5, .ex (.int .i64 2))], [(0, .own tb), (1, .view cs)], 2⟩) (obs := [Ob.call (fun g => List.lookup g []) 36 [.ex (.int .i64 (↑n : Int))] [] { val := .ex (.int .i64 0) }]) (by kernel_rfl) (by kernel_rfl) ⟨((cr ).gl), trivial⟩ ?_
  refine AG.fin ([.ex (.pointer none), .ex (.int .i64 2)]) Go.Proofs.Tryd.f14 fn14 (.inr ⟨_, rfl⟩) (obs := []) (by kernel_rfl) trivial (by kernel_rfl) ⟨(by kernel_rfl), trivial⟩ (by kernel_rfl)
theorem krnil_ok : CallOK Tryd.prog (fun _ => none) 17 [.ex (.pointer none)] [] { val := .ex (.int .i64 0) } := by
  refine CallOK.from0 hmix Tryd.f17 0 fn17 (by kernel_rfl) (by kernel_rfl) (fun w ρ h1 h2 => ?_)
  refine AG.rk 8 [2] [] 0 (todo' := [.code (sub (codeOf Tryd.f17) [1, 0, 1, 0, 1]), .code (sub (codeOf Tryd.f17) [1, 1])]) (st' := ⟨mkT 9 [(2, .ex (.int .i64 0))], [], 0⟩) (by kernel_rfl) (by kernel_rfl) ?_
  refine AG.fin ([.ex (.int .i64 0)]) Go.Proofs.Tryd.f17 fn17 (.inr ⟨_, rfl⟩) (obs := []) (by kernel_rfl) trivial (by kernel_rfl) trivial (by kernel_rfl)
theorem katnil_ok (i : Int) : CallOK Tryd.prog (fun _ => none) 18 [.ex (.pointer none), .ex (.int .i64 i)] [] { val := .ex (.agg (List.replicate 16 (Value.int .u8 0)).toArray) } := by
  refine CallOK.from0 hmix Tryd.f18 0 fn18 (by kernel_rfl) (by kernel_rfl) (fun w ρ h1 h2 => ?_)
  refine AG.rk 8 [4] [0] 1 (todo' := [.code (sub (codeOf Tryd.f18) [1, 0, 1, 0, 1]), .code (sub (codeOf Tryd.f18) [1, 1])]) (st' := ⟨mkT 26 [(4, .p 0 0)], [(0, .own (List.replicate 16 (Value.int .u8 0)))], 1⟩) (by kernel_rfl) (by kernel_rfl) ?_
  refine AG.fin ([.ex (.agg { toList := List.replicate 16 (Value.int .u8 0) })]) Go.Proofs.Tryd.f18 fn18 (.inr ⟨_, rfl⟩) (obs := [Ob.le 16 16]) (by kernel_rfl) ⟨(Ob.holds_of_dec (by kernel_rfl)), trivial⟩ (by kernel_rfl) trivial (by kernel_rfl)
theorem katout_ok (tb : List Value) (r : Nat) (F : Nat → Int) (i : Int) (h : i < 0 ∨ (r : Int) < i) : CallOK Tryd.prog (fun _ => none) 18 [.p 0 0, .ex (.int .i64 i)] [(0, .mix (.p 1 0 :: .ex (.int .i64 (r : Int)) :: (ar8 240 F).map .ex)), (1, .own tb)] { val := .ex (.agg (List.replicate 16 (Value.int .u8 0)).toArray), upd := [(0, .mix (.p 1 0 :: .ex (.int .i64 (r : Int)) :: (ar8 240 F).map .ex)), (1, .own tb)], wks := [0, 1] } := by
  by_cases h0 : i < 0
  · have g0 : decide (i < 0) = true := by simp; omega
    refine CallOK.from0 hmix Tryd.f18 2 fn18 (by kernel_rfl) (by kernel_rfl) (fun w ρ h1 h2 => ?_)
    refine AG.rs 8 [([], []), ([], [(4, { val := .ex (.bool true) })]), ([], [])] [4] [0, 1, 2] 3 (todo' := [.code (sub (codeOf Tryd.f18) [1, 0, 1, 0, 1]), .code (sub (codeOf Tryd.f18) [1, 1])]) (st' := ⟨mkT 26 [(4, .p 2 0)], [(0, .mix (.p 1 0 :: .ex (.int .i64 (↑r : Int)) :: List.map .ex (ar8 240 F))), (1, .own tb), (2, .own (List.replicate 16 (Value.int .u8 0)))], 3⟩) (obs := [Ob.eq (.ex (.bool (decide (i < 0)))) (.ex (.bool true))]) (by kernel_rfl) (by kernel_rfl) ⟨(by simp only [Ob.holds, g0]), trivial⟩ ?_
    refine AG.fin ([.ex (.agg { toList := List.replicate 16 (Value.int .u8 0) })]) Go.Proofs.Tryd.f18 fn18 (.inr ⟨_, rfl⟩) (obs := [Ob.le 16 16]) (by kernel_rfl) ⟨(Ob.holds_of_dec (by kernel_rfl)), trivial⟩ (by kernel_rfl) ⟨(by kernel_rfl), (by kernel_rfl), trivial⟩ (by kernel_rfl)
  · have g0 : decide (i < 0) = false := by simp; omega
    have g1 : decide (i > (r : Int)) = true := by simp; omega
    refine CallOK.from0 hmix Tryd.f18 2 fn18 (by kernel_rfl) (by kernel_rfl) (fun w ρ h1 h2 => ?_)
    refine AG.rs 8 [([], []), ([], [(4, { val := .ex (.bool false) }), (12, { val := .ex (.bool true) })]), ([], [])] [4] [0, 1, 2] 3 (todo' := [.code (sub (codeOf Tryd.f18) [1, 0, 1, 0, 1]), .code (sub (codeOf Tryd.f18) [1, 1])]) (st' := ⟨mkT 26 [(4, .p 2 0)], [(0, .mix (.p 1 0 :: .ex (.int .i64 (↑r : Int)) :: List.map .ex (ar8 240 F))), (1, .own tb), (2, .own (List.replicate 16 (Value.int .u8 0)))], 3⟩) (obs := [Ob.eq (.ex (.bool (decide (i < 0)))) (.ex (.bool false)), Ob.eq (.ex (.bool (decide (i > (↑r : Int))))) (.ex (.bool true))]) (by kernel_rfl) (by kernel_rfl) ⟨(by simp only [Ob.holds, g0]), (by simp only [Ob.holds, g1]), trivial⟩ ?_
    refine AG.fin ([.ex (.agg { toList := List.replicate 16 (Value.int .u8 0) })]) Go.Proofs.Tryd.f18 fn18 (.inr ⟨_, rfl⟩) (obs := [Ob.le 16 16]) (by kernel_rfl) ⟨(Ob.holds_of_dec (by kernel_rfl)), trivial⟩ (by kernel_rfl) ⟨(by kernel_rfl), (by kernel_rfl), trivial⟩ (by kernel_rfl)
theorem schedno_ok (bs : List Int) (hn : ¬ (bs.length = 16 ∨ bs.length = 24 ∨ bs.length = 32)) (i : Int) : CallOK Tryd.prog (fun g => [(0, 1), (1, 2)].lookup g) 3 [.sv 0 0 bs.length, .ex (.int .i64 i)] [(0, .view (bs.map (Value.int .u8))), (1, .view (mixL.map (Value.int .u8))), (2, .view (unmL.map (Value.int .u8)))] { val := .ex (.bool true) } := by
  obtain ⟨mx, hm⟩ : ∃ mx, mx = mixL.map (Value.int .u8) := ⟨_, rfl⟩
  obtain ⟨um, hu⟩ : ∃ um, um = unmL.map (Value.int .u8) := ⟨_, rfl⟩
  rw [← hm, ← hu]
  by_cases hl : bs.length ≤ 64
  case neg =>
    have g0 : decide ((bs.length : Int) > 64) = true := by simp; omega
    refine CallOK.from hmix Tryd.f3 3 fn3 (by kernel_rfl) (by kernel_rfl) (fun w ρ h1 h2 => ?_)
    refine AG.rs 8 [([], []), ([], [(2, { val := .ex (.bool true) })]), ([], [])] [4] [0, 1, 2] 3 (todo' := [.code (sub (codeOf Tryd.f3) [1, 0, 1, 0, 1]), .code (sub (codeOf Tryd.f3) [1, 1])]) (st' := ⟨mkT 100 [(4, .ex (.bool true))], [(0, .view (List.map (Value.int .u8) bs)), (1, .view mx), (2, .view um)], 3⟩) (obs := [Ob.eq (.ex (.bool (decide ((↑(List.length bs) : Int) > 64)))) (.ex (.bool true))]) (by kernel_rfl) (by kernel_rfl) ⟨(by simp only [Ob.holds, g0]), trivial⟩ ?_
    refine AG.fin ([.ex (.bool true)]) Go.Proofs.Tryd.f3 fn3 (.inr ⟨_, rfl⟩) (obs := []) (by kernel_rfl) trivial (by kernel_rfl) trivial (by kernel_rfl)
  have g0 : decide ((bs.length : Int) > 64) = false := by simp; omega
  obtain ⟨tb, ht⟩ : ∃ tb, tb = tabC := ⟨_, rfl⟩
  have ct := tabs04 hm hu ht
  have c0 := expnil_ok bs.length (bs.map (Value.int .u8))
  have c1 := expwrong_ok tb bs.length hn (bs.map (Value.int .u8))
  have c2 := rightno_ok bs.length hn
  have c3 := krnil_ok
  have c4 := katnil_ok 0
  have ca := awake04 hm hu
  refine CallOK.from hmix Tryd.f3 3 fn3 (by kernel_rfl) (by kernel_rfl) (fun w ρ h1 h2 => ?_)
  refine AG.rs 11 [([], []), ([], [(2, { val := .ex (.bool false) })]), ([], [(1, useR [(0, 0, 0)] 23 ({ val := .tup [.ex (.pointer none), .ex (.int .i64 1)] }))]), ([], [(0, useR [(0, 1, 0), (1, 2, 0)] 47 ({ val := .p 2 0, upd := [(2, .own tb)], nks := [2] })), (2, useR [(0, 47, 0), (1, 0, 0)] 55 ({ val := .tup [.ex (.pointer none), .ex (.int .i64 2)], upd := [(0, .own tb)], wks := [0] }))])] [0, 1, 6, 7, 8] [0, 1, 2] 3 (todo' := [.code (sub (codeOf Tryd.f3) [1, 1, 1, 1])]) (st' := ⟨mkT 100 [(0, .sv 0 0 (List.length bs)), (1, .ex (.int .i64 i)), (6, .ex (.int .i64 1)), (7, .ex (.pointer none)), (8, .ex (.int .i64 2))], [(0, .view (List.map (Value.int .u8) bs)), (1, .view mx), (2, .view um)], 3⟩) (obs := [Ob.eq (.ex (.bool (decide ((↑(List.length bs) : Int) > 64)))) (.ex (.bool false)), Ob.call (fun g => List.lookup g [(0, 1), (1, 2)]) 14 [.ex (.pointer none), .sv 0 0 (List.length bs)] [(0, .view (List.map (Value.int .u8) bs))] (useR [(0, 0, 0)] 23 { val := .tup [.ex (.pointer none), .ex (.int .i64 1)] }), Ob.call (fun g => List.lookup g [(0, 1), (1, 2)]) 15 [] [(1, .view mx), (2, .view um)] (useR [(0, 1, 0), (1, 2, 0)] 47 { val := .p 2 0, upd := [(2, .own tb)], nks := [2] }), Ob.call (fun g => List.lookup g [(0, 1), (1, 2)]) 14 [.p 47 0, .sv 0 0 (List.length bs)] [(47, .own tb), (0, .view (List.map (Value.int .u8) bs))] (useR [(0, 47, 0), (1, 0, 0)] 55 { val := .tup [.ex (.pointer none), .ex (.int .i64 2)], upd := [(0, .own tb)], wks := [0] })]) (by kernel_rfl) (by kernel_rfl) ⟨(by simp only [Ob.holds, g0]), (CallOK.at0 [(0, 0, 0)] 23 (c0 ) (.cons (.ex _) (.cons (.vv rfl) .nil)) (.cons rfl rfl ⟨_, rfl, (by exact cov_all _)⟩ .nil) (by kernel_rfl)), (CallOK.at [(0, 1, 0), (1, 2, 0)] 47 (ct ) .nil (.cons rfl rfl ⟨_, rfl, (by exact cov_all _)⟩ (.cons rfl rfl ⟨_, rfl, (by exact cov_all _)⟩ .nil)) (by kernel_rfl)), (CallOK.at0 [(0, 47, 0), (1, 0, 0)] 55 (c1 ) (.cons (.p rfl) (.cons (.vv rfl) .nil)) (.cons rfl rfl ⟨rfl, rfl⟩ (.cons rfl rfl ⟨_, rfl, (by exact cov_all _)⟩ .nil)) (by kernel_rfl)), trivial⟩ ?_
  refine AG.rs 11 [([], []), ([], [(2, { val := .ex (.bool false) })]), ([], [(8, { val := .ex (.int .i64 0) }), (13, { val := .ex (.agg (List.toArray (List.replicate 16 (Value.int .u8 0)))) }), (18, useR [(0, 1, 0), (1, 2, 0)] 99 ({ val := .ex (.bool true) }))])] [4] [0, 1, 2] 3 (todo' := [.code (sub (codeOf Tryd.f3) [1, 0, 1, 0, 1]), .code (sub (codeOf Tryd.f3) [1, 1, 1, 1, 1, 1])]) (st' := ⟨mkT 100 [(4, .ex (.bool true))], [(0, .view (List.map (Value.int .u8) bs)), (1, .view mx), (2, .view um)], 3⟩) (obs := [Ob.call (fun g => List.lookup g [(0, 1), (1, 2)]) 16 [.ex (.int .i64 (↑(List.length bs) : Int))] [] { val := .ex (.bool false) }, Ob.call (fun g => List.lookup g [(0, 1), (1, 2)]) 17 [.ex (.pointer none)] [] { val := .ex (.int .i64 0) }, Ob.call (fun g => List.lookup g [(0, 1), (1, 2)]) 18 [.ex (.pointer none), .ex (.int .i64 0)] [] { val := .ex (.agg (List.toArray (List.replicate 16 (Value.int .u8 0)))) }, Ob.call (fun g => List.lookup g [(0, 1), (1, 2)]) 19 [] [(1, .view mx), (2, .view um)] (useR [(0, 1, 0), (1, 2, 0)] 99 { val := .ex (.bool true) })]) (by kernel_rfl) (by kernel_rfl) ⟨((c2 ).gl), ((c3 ).gl), ((c4 ).gl), (CallOK.at [(0, 1, 0), (1, 2, 0)] 99 (ca ) .nil (.cons rfl rfl ⟨_, rfl, (by exact cov_all _)⟩ (.cons rfl rfl ⟨_, rfl, (by exact cov_all _)⟩ .nil)) (by kernel_rfl)), trivial⟩ ?_
  refine AG.fin ([.ex (.bool true)]) Go.Proofs.Tryd.f3 fn3 (.inr ⟨_, rfl⟩) (obs := []) (by kernel_rfl) trivial (by kernel_rfl) trivial (by kernel_rfl)
end Go.Proofs.YtlkihbmkekadeaaDoor.Ab
