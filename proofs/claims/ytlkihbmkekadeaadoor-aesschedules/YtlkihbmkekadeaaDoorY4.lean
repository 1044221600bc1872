/- Own: keys and the example of layer 4's statements (no statement is proved here). -/
import Derived.Test.YtlkihbmkekadeaaDoorT3
import Derived.Test.YtlkihbmkekadeaaDoorT5
import Derived.KernelRfl
namespace Go.Proofs.YtlkihbmkekadeaaDoor.Ab
open Go.Proofs
set_option linter.unusedSimpArgs false
set_option linter.unusedVariables false
set_option maxRecDepth 4000
-- AGLIM=3
theorem fn22 : Tryd.prog.funcs[22]? = some Tryd.f22 := by kernel_rfl
theorem zb04_0 (z : Nat → Int) (sz : Int) (e0 : sz.tmod 3 = 0) : CallOK Tryd.prog (fun _ => none) 22 [.ex (zV z sz)] [] { val := .o 0 0 16, upd := [(0, .row (ar8 16 z))], nks := [0] } := by
  refine CallOK.from0 hmix Tryd.f22 0 fn22 (by kernel_rfl) (by kernel_rfl) (fun w ρ h1 h2 => ?_)
  refine AG.rs 6 [([], []), ([], [(2, { val := .ex (.int .u8 0) })]), ([], [])] [2] [52] 53 (todo' := [.code (sub (codeOf Tryd.f22) [1, 1, 1])]) (st' := ⟨mkT 15 [(2, .o 52 0 16)], [(52, .row (ar8 16 z))], 53⟩) (obs := [Ob.eq (.ex (.int .u8 (Int.tmod sz 3))) (.ex (.int .u8 0)), Ob.le 1 3]) (by kernel_rfl) (by kernel_rfl) ⟨(by simp only [Ob.holds, e0]), (Ob.holds_of_dec (by kernel_rfl)), trivial⟩ ?_
  refine AG.ren 52 0 (st' := ⟨mkT 15 [(2, .o 0 0 16)], [(0, .row (ar8 16 z))], 53⟩) (by kernel_rfl) (by kernel_rfl) ?_
  refine AG.fin ([.o 0 0 16]) Go.Proofs.Tryd.f22 fn22 (.inr ⟨_, rfl⟩) (obs := []) (by kernel_rfl) trivial (by kernel_rfl) ⟨(by kernel_rfl), trivial⟩ (by kernel_rfl)
theorem zb04_1 (z : Nat → Int) (sz : Int) (e0 : sz.tmod 3 = 1) : CallOK Tryd.prog (fun _ => none) 22 [.ex (zV z sz)] [] { val := .o 0 0 24, upd := [(0, .row (ar8 24 z))], nks := [0] } := by
  refine CallOK.from0 hmix Tryd.f22 0 fn22 (by kernel_rfl) (by kernel_rfl) (fun w ρ h1 h2 => ?_)
  refine AG.rs 6 [([], []), ([], [(2, { val := .ex (.int .u8 1) })]), ([], [])] [2] [52] 53 (todo' := [.code (sub (codeOf Tryd.f22) [1, 1, 1])]) (st' := ⟨mkT 15 [(2, .o 52 0 24)], [(52, .row (ar8 24 z))], 53⟩) (obs := [Ob.eq (.ex (.int .u8 (Int.tmod sz 3))) (.ex (.int .u8 1)), Ob.le 1 3]) (by kernel_rfl) (by kernel_rfl) ⟨(by simp only [Ob.holds, e0]), (Ob.holds_of_dec (by kernel_rfl)), trivial⟩ ?_
  refine AG.ren 52 0 (st' := ⟨mkT 15 [(2, .o 0 0 24)], [(0, .row (ar8 24 z))], 53⟩) (by kernel_rfl) (by kernel_rfl) ?_
  refine AG.fin ([.o 0 0 24]) Go.Proofs.Tryd.f22 fn22 (.inr ⟨_, rfl⟩) (obs := []) (by kernel_rfl) trivial (by kernel_rfl) ⟨(by kernel_rfl), trivial⟩ (by kernel_rfl)
theorem zb04_2 (z : Nat → Int) (sz : Int) (e0 : sz.tmod 3 = 2) : CallOK Tryd.prog (fun _ => none) 22 [.ex (zV z sz)] [] { val := .o 0 0 32, upd := [(0, .row (ar8 32 z))], nks := [0] } := by
  refine CallOK.from0 hmix Tryd.f22 0 fn22 (by kernel_rfl) (by kernel_rfl) (fun w ρ h1 h2 => ?_)
  refine AG.rs 6 [([], []), ([], [(2, { val := .ex (.int .u8 2) })]), ([], [])] [2] [52] 53 (todo' := [.code (sub (codeOf Tryd.f22) [1, 1, 1])]) (st' := ⟨mkT 15 [(2, .o 52 0 32)], [(52, .row (ar8 32 z))], 53⟩) (obs := [Ob.eq (.ex (.int .u8 (Int.tmod sz 3))) (.ex (.int .u8 2)), Ob.le 1 3]) (by kernel_rfl) (by kernel_rfl) ⟨(by simp only [Ob.holds, e0]), (Ob.holds_of_dec (by kernel_rfl)), trivial⟩ ?_
  refine AG.ren 52 0 (st' := ⟨mkT 15 [(2, .o 0 0 32)], [(0, .row (ar8 32 z))], 53⟩) (by kernel_rfl) (by kernel_rfl) ?_
  refine AG.fin ([.o 0 0 32]) Go.Proofs.Tryd.f22 fn22 (.inr ⟨_, rfl⟩) (obs := []) (by kernel_rfl) trivial (by kernel_rfl) ⟨(by kernel_rfl), trivial⟩ (by kernel_rfl)
theorem zb04 (z : Nat → Int) (sz : Int) (h : 0 ≤ sz ∧ sz ≤ 255) : ∃ n : Nat, (n = 16 ∨ n = 24 ∨ n = 32) ∧ CallOK Tryd.prog (fun _ => none) 22 [.ex (zV z sz)] [] { val := .o 0 0 n, upd := [(0, .row (ar8 n z))], nks := [0] } := by
  have hm : sz.tmod 3 = 0 ∨ sz.tmod 3 = 1 ∨ sz.tmod 3 = 2 := by rw [Int.tmod_eq_emod_of_nonneg (by omega)]; omega
  rcases hm with e | e | e
  · exact ⟨16, .inl rfl, zb04_0 z sz e⟩
  · exact ⟨24, .inr (.inl rfl), zb04_1 z sz e⟩
  · exact ⟨32, .inr (.inr rfl), zb04_2 z sz e⟩
theorem fn15 : Tryd.prog.funcs[15]? = some Tryd.f15 := by kernel_rfl
theorem tabs04 {mx um : List Value} (hm : mx = mixL.map (Value.int .u8)) (hu : um = unmL.map (Value.int .u8)) {tb : List Value} (ht : tb = tabC) : CallOK Tryd.prog (fun g => [(0, 0), (1, 1)].lookup g) 15 [] [(0, .view mx), (1, .view um)] { val := .p 2 0, upd := [(2, .own tb)], nks := [2] } := by
  obtain ⟨bx, hx⟩ : ∃ bx, bx = bxC := ⟨_, rfl⟩
  have cm := make_ok hx
  have cn := new_ok hm hu hx ht
  refine CallOK.from hmix Tryd.f15 2 fn15 (by kernel_rfl) (by kernel_rfl) (fun w ρ h1 h2 => ?_)
  refine AG.rs 4 [([], []), ([], [(0, useR [] 6 ({ val := .p 0 0, upd := [(0, .own bx)], nks := [0] })), (1, useR [(0, 6, 0), (1, 0, 0), (2, 1, 0)] 10 ({ val := .p 3 0, upd := [(3, .own tb)], nks := [3] }))])] [0] [0, 1, 10] 11 (todo' := [.code (sub (codeOf Tryd.f15) [1, 1])]) (st' := ⟨mkT 3 [(0, .p 10 0)], [(0, .view mx), (1, .view um), (10, .own tb)], 11⟩) (obs := [Ob.call (fun g => List.lookup g [(0, 0), (1, 1)]) 39 [] [] (useR [] 6 { val := .p 0 0, upd := [(0, .own bx)], nks := [0] }), Ob.call (fun g => List.lookup g [(0, 0), (1, 1)]) 38 [.p 6 0] [(6, .own bx), (0, .view mx), (1, .view um)] (useR [(0, 6, 0), (1, 0, 0), (2, 1, 0)] 10 { val := .p 3 0, upd := [(3, .own tb)], nks := [3] })]) (by kernel_rfl) (by kernel_rfl) ⟨(CallOK.at0 [] 6 (cm ) .nil .nil (by kernel_rfl)), (CallOK.at [(0, 6, 0), (1, 0, 0), (2, 1, 0)] 10 (cn ) (.cons (.p rfl) .nil) (.cons rfl rfl ⟨rfl, rfl⟩ (.cons rfl rfl ⟨_, rfl, (by exact cov_all _)⟩ (.cons rfl rfl ⟨_, rfl, (by exact cov_all _)⟩ .nil))) (by kernel_rfl)), trivial⟩ ?_
  refine AG.ren 10 2 (st' := ⟨mkT 3 [(0, .p 2 0)], [(0, .view mx), (1, .view um), (2, .own tb)], 11⟩) (by kernel_rfl) (by kernel_rfl) ?_
  refine AG.fin ([.p 2 0]) Go.Proofs.Tryd.f15 fn15 (.inr ⟨_, rfl⟩) (obs := []) (by kernel_rfl) trivial (by kernel_rfl) ⟨(by kernel_rfl), trivial⟩ (by kernel_rfl)
theorem fn19 : Tryd.prog.funcs[19]? = some Tryd.f19 := by kernel_rfl
theorem awake04 {mx um : List Value} (hm : mx = mixL.map (Value.int .u8)) (hu : um = unmL.map (Value.int .u8)) : CallOK Tryd.prog (fun g => [(0, 0), (1, 1)].lookup g) 19 [] [(0, .view mx), (1, .view um)] { val := .ex (.bool true) } := by
  obtain ⟨tb, ht⟩ : ∃ tb, tb = tabC := ⟨_, rfl⟩
  have ct := tabs04 hm hu ht
  have ck := expandr_ok ht 16 (fun _ => 0) (fun i hi => ⟨by decide, by decide⟩) (.inl rfl)
  have er : nrnd 16 = 10 := rfl
  rw [er] at ck
  have ce := encrypt_ok ht 10 (by decide) (by decide) (kI ((List.range 16).map fun _ => 0)) (fun _ => 0) (b8_kI _) (fun _ => ⟨Int.le_refl 0, by simp only; decide⟩)
  have cr := krounds_ok ht 10 (kI ((List.range 16).map fun _ => 0)) (b8_kI _)
  obtain ⟨z0, z1, z15⟩ := enc_zero_at (fun _ => 0) (fun i hi => rfl)
  generalize encI (kI ((List.range 16).map fun _ => 0)) 10 (fun _ => 0) = E at *
  generalize kI ((List.range 16).map fun _ => 0) = F at *
  refine CallOK.from hmix Tryd.f19 2 fn19 (by kernel_rfl) (by kernel_rfl) (fun w ρ h1 h2 => ?_)
  refine AG.rs 8 [([], []), ([], [(0, useR [(0, 0, 0), (1, 1, 0)] 6 ({ val := .p 2 0, upd := [(2, .own tb)], nks := [2] })), (2, useR [(0, 6, 0), (1, 10, 0)] 14 ({ val := .tup [.p 2 0, .ex (.int .i64 0)], upd := [(2, .mix (.p 0 0 :: .ex (.int .i64 (↑10 : Int)) :: List.map .ex (ar8 240 F)))], nks := [2] }))]), ([], [(2, useR [(0, 14, 0), (1, 6, 0)] 46 ({ val := .ex (.agg (List.toArray (ar8 16 E))) }))]), ([], [(8, useR [(0, 14, 0), (1, 6, 0)] 90 ({ val := .ex (.int .i64 (↑10 : Int)) })), (13, { val := .ex (.int .u8 102) }), (18, { val := .ex (.int .u8 233) }), (23, { val := .ex (.int .u8 46) })])] [0] [0, 1] 2 (todo' := [.code (sub (codeOf Tryd.f19) [1, 1, 1, 1])]) (st' := ⟨mkT 39 [(0, .ex (.bool true))], [(0, .view mx), (1, .view um)], 2⟩) (obs := [Ob.call (fun g => List.lookup g [(0, 0), (1, 1)]) 15 [] [(0, .view mx), (1, .view um)] (useR [(0, 0, 0), (1, 1, 0)] 6 { val := .p 2 0, upd := [(2, .own tb)], nks := [2] }), Ob.call (fun g => List.lookup g [(0, 0), (1, 1)]) 14 [.p 6 0, .s 10 0 16 16] [(6, .own tb), (10, .own (List.replicate 16 (Value.int .u8 0)))] (useR [(0, 6, 0), (1, 10, 0)] 14 { val := .tup [.p 2 0, .ex (.int .i64 0)], upd := [(2, .mix (.p 0 0 :: .ex (.int .i64 (↑10 : Int)) :: List.map .ex (ar8 240 F)))], nks := [2] }), Ob.call (fun g => List.lookup g [(0, 0), (1, 1)]) 23 [.p 14 0, .ex (.agg { toList := List.replicate 16 (Value.int .u8 0) })] [(14, .mix ([.p 6 0, .ex (.int .i64 10)] ++ List.map .ex (ar8 240 F))), (6, .own tb)] (useR [(0, 14, 0), (1, 6, 0)] 46 { val := .ex (.agg (List.toArray (ar8 16 E))) }), Ob.call (fun g => List.lookup g [(0, 0), (1, 1)]) 17 [.p 14 0] [(14, .mix ([.p 6 0, .ex (.int .i64 10)] ++ List.map .ex (ar8 240 F))), (6, .own tb)] (useR [(0, 14, 0), (1, 6, 0)] 90 { val := .ex (.int .i64 (↑10 : Int)) }), Ob.eq (.ex (.int .u8 (E 0))) (.ex (.int .u8 102)), Ob.le 1 16, Ob.eq (.ex (.int .u8 (E 1))) (.ex (.int .u8 233)), Ob.le 2 16, Ob.eq (.ex (.int .u8 (E 15))) (.ex (.int .u8 46)), Ob.le 16 16]) (by kernel_rfl) (by kernel_rfl) ⟨(CallOK.at [(0, 0, 0), (1, 1, 0)] 6 (ct ) .nil (.cons rfl rfl ⟨_, rfl, (by exact cov_all _)⟩ (.cons rfl rfl ⟨_, rfl, (by exact cov_all _)⟩ .nil)) (by kernel_rfl)), (CallOK.at0 [(0, 6, 0), (1, 10, 0)] 14 (ck ) (.cons (.p rfl) (.cons (.vs rfl (by first | omega | (simp; done) | (simp; omega))) .nil)) (.cons rfl rfl ⟨rfl, rfl⟩ (.cons rfl rfl ⟨_, rfl, (by exact cov_all _)⟩ .nil)) (by kernel_rfl)), (CallOK.at0 [(0, 14, 0), (1, 6, 0)] 46 (ce ) (.cons (.p rfl) (.cons (.ex _) .nil)) (.cons rfl rfl ⟨_, rfl, rfl, (.cons (.p rfl) (.cons (.ex _) (FitL.exs _)))⟩ (.cons rfl rfl ⟨rfl, rfl⟩ .nil)) (by kernel_rfl)), (CallOK.at0 [(0, 14, 0), (1, 6, 0)] 90 (cr ) (.cons (.p rfl) .nil) (.cons rfl rfl ⟨_, rfl, rfl, (.cons (.p rfl) (.cons (.ex _) (FitL.exs _)))⟩ (.cons rfl rfl ⟨rfl, rfl⟩ .nil)) (by kernel_rfl)), (by simp only [Ob.holds, z0]), (Ob.holds_of_dec (by kernel_rfl)), (by simp only [Ob.holds, z1]), (Ob.holds_of_dec (by kernel_rfl)), (by simp only [Ob.holds, z15]), (Ob.holds_of_dec (by kernel_rfl)), trivial⟩ ?_
  refine AG.fin ([.ex (.bool true)]) Go.Proofs.Tryd.f19 fn19 (.inr ⟨_, rfl⟩) (obs := []) (by kernel_rfl) trivial (by kernel_rfl) trivial (by kernel_rfl)
end Go.Proofs.YtlkihbmkekadeaaDoor.Ab
