/- Own: the law AesSchedules followed (no statement is proved here). -/
import Derived.Test.YtlkihbmkekadeaaDoorY14
import Derived.KernelRfl
namespace Go.Proofs.YtlkihbmkekadeaaDoor.Ab
open Go.Proofs
set_option linter.unusedSimpArgs false
set_option linter.unusedVariables false
set_option maxRecDepth 4000
-- AGLIM=3
theorem bxputS {bR : List Value} (hR : bR = bxR) : putAt (List.replicate 512 (Value.int .u8 0)) 0 (Value.cells (Value.agg { toList := bR })).toList = bR := by
  have hl : bR.length = 512 := by rw [hR]; unfold bxR; rw [List.length_append, bc_len, bc_len]
  show putAt (List.replicate 512 (Value.int .u8 0)) 0 bR = bR
  have e : List.drop (0 + bR.length) (List.replicate 512 (Value.int .u8 0)) = [] := List.drop_of_length_le (by rw [List.length_replicate]; omega)
  rw [putAt_eq _ _ _ (by rw [List.length_replicate]; omega), List.take_zero, List.nil_append, e, List.append_nil]
theorem bxoneS {bR : List Value} (hR : bR = bxR) : (Value.cells (Value.agg { toList := bR })).toList.all (·.oneCell') = true := by
  show bR.all _ = true
  rw [hR]; unfold bxR
  rw [List.all_append, Bool.and_eq_true]
  exact ⟨one_arr _ _ _, one_arr _ _ _⟩
theorem schedyes_ok (n : Nat) (hn : n = 16 ∨ n = 24 ∨ n = 32) (z : Nat → Int) (hz : ∀ i, i < n → R8 (z i)) (i : Int) (hi : -9223372036854775808 ≤ i ∧ i ≤ 9223372036854775807) : CallOK Tryd.prog (fun g => [(0, 1), (1, 2)].lookup g) 3 [.sv 0 0 n, .ex (.int .i64 i)] [(0, .view (ar8 n z)), (1, .view (mixL.map (Value.int .u8))), (2, .view (unmL.map (Value.int .u8)))] { val := .ex (.bool true) } := by
  obtain ⟨mx, hm⟩ : ∃ mx, mx = mixL.map (Value.int .u8) := ⟨_, rfl⟩
  obtain ⟨um, hu⟩ : ∃ um, um = unmL.map (Value.int .u8) := ⟨_, rfl⟩
  rw [← hm, ← hu]
  have g0 : decide ((n : Int) > 64) = false := by simp; omega
  obtain ⟨tb, ht⟩ : ∃ tb, tb = tabC := ⟨_, rfl⟩
  obtain ⟨bR, hR⟩ : ∃ bR, bR = bxR := ⟨_, rfl⟩
  have ct := tabs04 hm hu ht
  have c0 := expnil_ok n (ar8 n z)
  have cx := expandr_ok ht n z hz hn
  have c2 := rightyes_ok n hn
  have hr := nrnd_ok hn
  have cm := rmk_ok hR
  have cy := rkeys_ok hR n hn z hz
  have hF := b8_kI ((List.range n).map z)
  generalize kI ((List.range n).map z) = F at *
  generalize nrnd n = r at *
  have cr := krounds_ok ht r F hF
  have ca := awake04 hm hu
  have hBl' : (Value.cells (Value.agg { toList := bR })).toList.length = 512 := by show bR.length = 512; rw [hR]; unfold bxR; rw [List.length_append, bc_len, bc_len]
  have hBl : bR.length = 512 := hBl'
  have hOne := bxoneS hR
  have hB : List.take 512 (List.drop 0 bR) = bR := by rw [List.drop_zero]; exact List.take_of_length_le (by omega)
  have hP := bxputS hR
  have e1 : IntKind.i64.wrap (((r + 1 : Nat) : Int) - 1) = (r : Int) := by rw [wrap64_id _ (by omega) (by omega)]; omega
  have e2 : ((r : Int) != (r : Int)) = false := by simp
  refine CallOK.from hmix Tryd.f3 3 fn3 (by kernel_rfl) (by kernel_rfl) (fun w ρ h1 h2 => ?_)
  refine AG.rs 11 [([], []), ([], [(2, { val := .ex (.bool false) })]), ([], [(1, useR [(0, 0, 0)] 23 ({ val := .tup [.ex (.pointer none), .ex (.int .i64 1)] }))]), ([], [(0, useR [(0, 1, 0), (1, 2, 0)] 47 ({ val := .p 2 0, upd := [(2, .own tb)], nks := [2] })), (2, useR [(0, 47, 0), (1, 0, 0)] 55 ({ val := .tup [.p 2 0, .ex (.int .i64 0)], upd := [(2, .mix (.p 0 0 :: .ex (.int .i64 (↑r : Int)) :: List.map .ex (ar8 240 F)))], nks := [2] }))])] [0, 1, 6, 7, 8] [0, 1, 2, 47, 55] 56 (todo' := [.code (sub (codeOf Tryd.f3) [1, 1, 1, 1])]) (st' := ⟨mkT 100 [(0, .sv 0 0 n), (1, .ex (.int .i64 i)), (6, .ex (.int .i64 1)), (7, .p 55 0), (8, .ex (.int .i64 0))], [(0, .view (ar8 n z)), (1, .view mx), (2, .view um), (47, .own tb), (55, .mix ([.p 47 0, .ex (.int .i64 (↑r : Int))] ++ List.map .ex (ar8 240 F)))], 56⟩) (obs := [Ob.eq (.ex (.bool (decide ((↑n : Int) > 64)))) (.ex (.bool false)), Ob.call (fun g => List.lookup g [(0, 1), (1, 2)]) 14 [.ex (.pointer none), .sv 0 0 n] [(0, .view (ar8 n z))] (useR [(0, 0, 0)] 23 { val := .tup [.ex (.pointer none), .ex (.int .i64 1)] }), Ob.call (fun g => List.lookup g [(0, 1), (1, 2)]) 15 [] [(1, .view mx), (2, .view um)] (useR [(0, 1, 0), (1, 2, 0)] 47 { val := .p 2 0, upd := [(2, .own tb)], nks := [2] }), Ob.call (fun g => List.lookup g [(0, 1), (1, 2)]) 14 [.p 47 0, .sv 0 0 n] [(47, .own tb), (0, .view (ar8 n z))] (useR [(0, 47, 0), (1, 0, 0)] 55 { val := .tup [.p 2 0, .ex (.int .i64 0)], upd := [(2, .mix (.p 0 0 :: .ex (.int .i64 (↑r : Int)) :: List.map .ex (ar8 240 F)))], nks := [2] })]) (by kernel_rfl) (by kernel_rfl) ⟨(by simp only [Ob.holds, g0]), (CallOK.at0 [(0, 0, 0)] 23 (c0 ) (.cons (.ex _) (.cons (.vv rfl) .nil)) (.cons rfl rfl ⟨_, rfl, (by exact cov_all _)⟩ .nil) (by kernel_rfl)), (CallOK.at [(0, 1, 0), (1, 2, 0)] 47 (ct ) .nil (.cons rfl rfl ⟨_, rfl, (by exact cov_all _)⟩ (.cons rfl rfl ⟨_, rfl, (by exact cov_all _)⟩ .nil)) (by kernel_rfl)), (CallOK.at0 [(0, 47, 0), (1, 0, 0)] 55 (cx ) (.cons (.p rfl) (.cons (.vv rfl) .nil)) (.cons rfl rfl ⟨rfl, rfl⟩ (.cons rfl rfl ⟨_, rfl, (by exact cov_all _)⟩ .nil)) (by kernel_rfl)), trivial⟩ ?_
  refine AG.rs 15 [([], []), ([], [(2, { val := .ex (.bool true) })]), ([], [(0, { val := .ex (.agg (List.toArray bR)) }), (2, useR [(0, 0, 0)] 88 ({ val := .o 1 0 (r + 1), upd := [(1, .rowX 16 (ar8 (16 * (r + 1)) F))], nks := [1] }))]), ([], [(8, useR [(0, 55, 0), (1, 47, 0)] 128 ({ val := .ex (.int .i64 (↑r : Int)) })), (11, { val := .ex (.int .i64 (↑r : Int)) }), (12, { val := .ex (.bool false) })])] [1, 7, 9, 67] [0, 1, 2, 47, 55, 88] 89 (todo' := [.code (sub (codeOf Tryd.f3) [1, 1, 1, 1, 1, 1, 1, 0, 1]), .code (sub (codeOf Tryd.f3) [1, 1, 1, 1, 1, 1, 1, 1])]) (st' := ⟨mkT 100 [(1, .ex (.int .i64 i)), (7, .p 55 0), (9, .o 88 0 (r + 1)), (67, .ex (.bool false))], [(0, .view (ar8 n z)), (1, .view mx), (2, .view um), (47, .own tb), (55, .mix ([.p 47 0, .ex (.int .i64 (↑r : Int))] ++ List.map .ex (ar8 240 F))), (88, .rowX 16 (ar8 (16 * (r + 1)) F))], 89⟩) (obs := [Ob.call (fun g => List.lookup g [(0, 1), (1, 2)]) 16 [.ex (.int .i64 (↑n : Int))] [] { val := .ex (.bool true) }, Ob.call (fun g => List.lookup g [(0, 1), (1, 2)]) 21 [] [] { val := .ex (.agg (List.toArray bR)) }, Ob.call (fun g => List.lookup g [(0, 1), (1, 2)]) 20 [.ex (.agg { toList := bR }), .sv 0 0 n] [(0, .view (ar8 n z))] (useR [(0, 0, 0)] 88 { val := .o 1 0 (r + 1), upd := [(1, .rowX 16 (ar8 (16 * (r + 1)) F))], nks := [1] }), Ob.call (fun g => List.lookup g [(0, 1), (1, 2)]) 17 [.p 55 0] [(55, .mix ([.p 47 0, .ex (.int .i64 (↑r : Int))] ++ List.map .ex (ar8 240 F))), (47, .own tb)] (useR [(0, 55, 0), (1, 47, 0)] 128 { val := .ex (.int .i64 (↑r : Int)) }), Ob.eq (.ex (.int .i64 (IntKind.wrap .i64 ((↑(r + 1) : Int) - 1)))) (.ex (.int .i64 (↑r : Int))), Ob.eq (.ex (.bool ((↑r : Int) != (↑r : Int)))) (.ex (.bool false))]) (by kernel_rfl) (by kernel_rfl) ⟨((c2 ).gl), ((cm ).gl), (CallOK.at0 [(0, 0, 0)] 88 (cy ) (.cons (.ex _) (.cons (.vv rfl) .nil)) (.cons rfl rfl ⟨_, rfl, (by exact cov_all _)⟩ .nil) (by kernel_rfl)), (CallOK.at0 [(0, 55, 0), (1, 47, 0)] 128 (cr ) (.cons (.p rfl) .nil) (.cons rfl rfl ⟨_, rfl, rfl, (.cons (.p rfl) (.cons (.ex _) (FitL.exs _)))⟩ (.cons rfl rfl ⟨rfl, rfl⟩ .nil)) (by kernel_rfl)), (by simp only [Ob.holds, e1]), (by simp only [Ob.holds, e2]), trivial⟩ ?_
  refine AG.rk 6 [1, 7, 9, 10] [0, 1, 2, 47, 55, 88] 89 (todo' := [.code (sub (codeOf Tryd.f3) [1, 1, 1, 1, 1, 1, 1, 1, 0, 1, 0]), .inBlock 0, .code (sub (codeOf Tryd.f3) [1, 1, 1, 1, 1, 1, 1, 1, 1])]) (st' := ⟨mkT 100 [(1, .ex (.int .i64 i)), (7, .p 55 0), (9, .o 88 0 (r + 1)), (10, .ex (.int .i64 0))], [(0, .view (ar8 n z)), (1, .view mx), (2, .view um), (47, .own tb), (55, .mix ([.p 47 0, .ex (.int .i64 (↑r : Int))] ++ List.map .ex (ar8 240 F))), (88, .rowX 16 (ar8 (16 * (r + 1)) F))], 89⟩) (by kernel_rfl) (by kernel_rfl) ?_
  refine AG.rk 1 [1, 7, 9, 10] [0, 1, 2, 47, 55, 88] 89 (todo' := [.code (sub (codeOf Tryd.f3) [1, 1, 1, 1, 1, 1, 1, 1, 0, 1, 0, 0]), .inLoop (sub (codeOf Tryd.f3) [1, 1, 1, 1, 1, 1, 1, 1, 0, 1, 0, 0]), .inBlock 0, .code (sub (codeOf Tryd.f3) [1, 1, 1, 1, 1, 1, 1, 1, 1])]) (st' := ⟨mkT 100 [(1, .ex (.int .i64 i)), (7, .p 55 0), (9, .o 88 0 (r + 1)), (10, .ex (.int .i64 0))], [(0, .view (ar8 n z)), (1, .view mx), (2, .view um), (47, .own tb), (55, .mix ([.p 47 0, .ex (.int .i64 (↑r : Int))] ++ List.map .ex (ar8 240 F))), (88, .rowX 16 (ar8 (16 * (r + 1)) F))], 89⟩) (by kernel_rfl) (by kernel_rfl) ?_
  refine AG.indE (α := {x : Nat // x ≤ r + 1}) (fun x => r + 1 - x.1)
    (fun x => ⟨mkT 100 [(1, .ex (.int .i64 i)), (7, .p 55 0), (9, .o 88 0 (r + 1)), (10, .ex (.int .i64 (x.1 : Int)))], [(0, .view (ar8 n z)), (1, .view mx), (2, .view um), (47, .own tb), (55, .mix (.p 47 0 :: .ex (.int .i64 (r : Int)) :: (ar8 240 F).map .ex)), (88, .rowX 16 (ar8 (16 * (r + 1)) F))], 89⟩) ⟨0, by omega⟩ (by kernel_rfl) ?_
  rintro ⟨j, hj⟩ ih
  simp only at hj ih ⊢
  have hlF : (ar8 (16 * (r + 1)) F).length = 16 * (r + 1) := length_ar8 _ _
  refine AG.rk 3 [1, 7, 9, 10, 71] [0, 1, 2, 47, 55, 88] 89 (todo' := [.code (sub (codeOf Tryd.f3) [1, 1, 1, 1, 1, 1, 1, 1, 0, 1, 0, 0, 0, 1]), .code (sub (codeOf Tryd.f3) [1, 1, 1, 1, 1, 1, 1, 1, 0, 1, 0, 0, 1]), .inLoop (sub (codeOf Tryd.f3) [1, 1, 1, 1, 1, 1, 1, 1, 0, 1, 0, 0]), .inBlock 0, .code (sub (codeOf Tryd.f3) [1, 1, 1, 1, 1, 1, 1, 1, 1])]) (st' := ⟨mkT 100 [(1, .ex (.int .i64 i)), (7, .p 55 0), (9, .o 88 0 (r + 1)), (10, .ex (.int .i64 (↑j : Int))), (71, .ex (.bool (decide ((↑j : Int) < (↑(r + 1) : Int)))))], [(0, .view (ar8 n z)), (1, .view mx), (2, .view um), (47, .own tb), (55, .mix (.p 47 0 :: .ex (.int .i64 (↑r : Int)) :: List.map .ex (ar8 240 F))), (88, .rowX 16 (ar8 (16 * (r + 1)) F))], 89⟩) (by kernel_rfl) (by kernel_rfl) ?_
  refine AG.cond (b := decide ((↑j : Int) < (↑(r + 1) : Int))) (by kernel_rfl) (fun hc => ?_) (fun hc => ?_)
  · have hlt : j < r + 1 := by simp at hc; omega
    clear hc
    have ck := kat_ok ht r hr.2 F hF j (by omega)
    have hV := row16' (r + 1) j hlt F
    obtain ⟨K, hK⟩ : ∃ K : Nat → Int, K = fun q => F (16 * j + q) := ⟨_, rfl⟩
    rw [← hK] at ck hV
    have eX : eqL (List.map K (List.range 16)) (List.map K (List.range 16)) = true := eqL_iff.2 rfl
    have eX' : eqL [K 0, K 1, K 2, K 3, K 4, K 5, K 6, K 7, K 8, K 9, K 10, K 11, K 12, K 13, K 14, K 15] [K 0, K 1, K 2, K 3, K 4, K 5, K 6, K 7, K 8, K 9, K 10, K 11, K 12, K 13, K 14, K 15] = true := eX
    have v5 : IntKind.i64.wrap ((j : Int) + 1) = ((j + 1 : Nat) : Int) := by rw [wrap64_id _ (by omega) (by omega)]; omega
    have ih1 := ih ⟨j + 1, by omega⟩ (by simp only; omega)
    simp only at ih1
    refine AG.rs 10 [([], [(2, useR [(0, 55, 0), (1, 47, 0)] 97 ({ val := .ex (.agg (List.toArray (ar8 16 K))) })), (5, { val := .p 88 (j * 16) }), (6, { val := .ex (.agg { toList := ar8 16 K }) }), (7, { val := .ex (.bool false) })]), ([], [])] [1, 7, 9, 10] [0, 1, 2, 47, 55, 88] 89 (todo' := [.code (sub (codeOf Tryd.f3) [1, 1, 1, 1, 1, 1, 1, 1, 0, 1, 0, 0]), .inLoop (sub (codeOf Tryd.f3) [1, 1, 1, 1, 1, 1, 1, 1, 0, 1, 0, 0]), .inBlock 0, .code (sub (codeOf Tryd.f3) [1, 1, 1, 1, 1, 1, 1, 1, 1])]) (st' := ⟨mkT 100 [(1, .ex (.int .i64 i)), (7, .p 55 0), (9, .o 88 0 (r + 1)), (10, .ex (.int .i64 (IntKind.wrap .i64 ((↑j : Int) + 1))))], [(0, .view (ar8 n z)), (1, .view mx), (2, .view um), (47, .own tb), (55, .mix (.p 47 0 :: .ex (.int .i64 (↑r : Int)) :: List.map .ex (ar8 240 F))), (88, .rowX 16 (ar8 (16 * (r + 1)) F))], 89⟩) (obs := [Ob.call (fun g => List.lookup g [(0, 1), (1, 2)]) 18 [.p 55 0, .ex (.int .i64 (↑j : Int))] [(55, .mix (.p 47 0 :: .ex (.int .i64 (↑r : Int)) :: List.map .ex (ar8 240 F))), (47, .own tb)] (useR [(0, 55, 0), (1, 47, 0)] 97 { val := .ex (.agg (List.toArray (ar8 16 K))) }), Ob.eq (.p 88 (0 + Int.toNat (↑j : Int) * 16)) (.p 88 (j * 16)), Ob.ix (↑j : Int) (r + 1), Ob.eq (.ex (.agg { toList := List.take 16 (List.drop (j * 16) (ar8 (16 * (r + 1)) F)) })) (.ex (.agg { toList := ar8 16 K })), Ob.le (j * 16 + 16) (List.length (ar8 (16 * (r + 1)) F)), Ob.eq (.ex (.bool !eqL (List.map K (List.range 16)) (List.map K (List.range 16)))) (.ex (.bool false))]) (by kernel_rfl) (by kernel_rfl) ⟨(CallOK.at0 [(0, 55, 0), (1, 47, 0)] 97 (ck ) (.cons (.p rfl) (.cons (.ex _) .nil)) (.cons rfl rfl ⟨_, rfl, rfl, (.cons (.p rfl) (.cons (.ex _) (FitL.exs _)))⟩ (.cons rfl rfl ⟨rfl, rfl⟩ .nil)) (by kernel_rfl)), (by simp only [Ob.holds, Int.toNat_natCast, Nat.zero_add, hV, eX, eX']), (by (simp only [Ob.holds]; omega)), (by simp only [Ob.holds, hV]), (by (simp only [Ob.holds]; omega)), (by first | (simp only [Ob.holds, Int.toNat_natCast, Nat.zero_add, hV, eX, eX']; done) | (simp only [Ob.holds, Int.toNat_natCast, Nat.zero_add, hV, eX, eX']; rfl)), trivial⟩ ?_
    rewrite [v5]
    exact ih1
  · clear hc ih
    by_cases h0 : i < 0
    · have q0 : decide (i ≥ 0) = false := by simp; omega
      have co := katout_ok tb r F i (.inl h0)
      refine AG.rs 3 [([], [(1, { val := .ex (.bool false) }), (11, useR [(0, 55, 0), (1, 47, 0)] 133 ({ val := .ex (.agg (List.toArray (List.replicate 16 (Value.int .u8 0)))), upd := [(0, .mix (.p 1 0 :: .ex (.int .i64 (↑r : Int)) :: List.map .ex (ar8 240 F))), (1, .own tb)], wks := [0, 1] })), (16, useR [(0, 1, 0), (1, 2, 0)] 153 ({ val := .ex (.bool true) }))])] [4] [0, 1, 2] 3 (todo' := [.code (sub (codeOf Tryd.f3) [1, 0, 1, 0, 1])]) (st' := ⟨mkT 100 [(4, .ex (.bool true))], [(0, .view (ar8 n z)), (1, .view mx), (2, .view um)], 3⟩) (obs := [Ob.eq (.ex (.bool (decide (i ≥ 0)))) (.ex (.bool false)), Ob.call (fun g => List.lookup g [(0, 1), (1, 2)]) 18 [.p 55 0, .ex (.int .i64 i)] [(55, .mix (.p 47 0 :: .ex (.int .i64 (↑r : Int)) :: List.map .ex (ar8 240 F))), (47, .own tb)] (useR [(0, 55, 0), (1, 47, 0)] 133 { val := .ex (.agg (List.toArray (List.replicate 16 (Value.int .u8 0)))), upd := [(0, .mix (.p 1 0 :: .ex (.int .i64 (↑r : Int)) :: List.map .ex (ar8 240 F))), (1, .own tb)], wks := [0, 1] }), Ob.call (fun g => List.lookup g [(0, 1), (1, 2)]) 19 [] [(1, .view mx), (2, .view um)] (useR [(0, 1, 0), (1, 2, 0)] 153 { val := .ex (.bool true) })]) (by kernel_rfl) (by kernel_rfl) ⟨(by simp only [Ob.holds, q0]), (CallOK.at0 [(0, 55, 0), (1, 47, 0)] 133 (co ) (.cons (.p rfl) (.cons (.ex _) .nil)) (.cons rfl rfl ⟨_, rfl, rfl, (.cons (.p rfl) (.cons (.ex _) (FitL.exs _)))⟩ (.cons rfl rfl ⟨rfl, rfl⟩ .nil)) (by kernel_rfl)), (CallOK.at [(0, 1, 0), (1, 2, 0)] 153 (ca ) .nil (.cons rfl rfl ⟨_, rfl, (by exact cov_all _)⟩ (.cons rfl rfl ⟨_, rfl, (by exact cov_all _)⟩ .nil)) (by kernel_rfl)), trivial⟩ ?_
      refine AG.fin ([.ex (.bool true)]) Go.Proofs.Tryd.f3 fn3 (.inr ⟨_, rfl⟩) (obs := []) (by kernel_rfl) trivial (by kernel_rfl) trivial (by kernel_rfl)
    · have q0 : decide (i ≥ 0) = true := by simp; omega
      by_cases h1 : i < (r + 1 : Nat)
      · have q1 : decide (i < ((r + 1 : Nat) : Int)) = true := by simp; omega
        refine AG.rs 3 [([], [(1, { val := .ex (.bool true) }), (6, { val := .ex (.bool true) }), (16, useR [(0, 1, 0), (1, 2, 0)] 153 ({ val := .ex (.bool true) }))])] [4] [0, 1, 2] 3 (todo' := [.code (sub (codeOf Tryd.f3) [1, 0, 1, 0, 1])]) (st' := ⟨mkT 100 [(4, .ex (.bool true))], [(0, .view (ar8 n z)), (1, .view mx), (2, .view um)], 3⟩) (obs := [Ob.eq (.ex (.bool (decide (i ≥ 0)))) (.ex (.bool true)), Ob.eq (.ex (.bool (decide (i < (↑(r + 1) : Int))))) (.ex (.bool true)), Ob.call (fun g => List.lookup g [(0, 1), (1, 2)]) 19 [] [(1, .view mx), (2, .view um)] (useR [(0, 1, 0), (1, 2, 0)] 153 { val := .ex (.bool true) })]) (by kernel_rfl) (by kernel_rfl) ⟨(by simp only [Ob.holds, q0]), (by simp only [Ob.holds, q1]), (CallOK.at [(0, 1, 0), (1, 2, 0)] 153 (ca ) .nil (.cons rfl rfl ⟨_, rfl, (by exact cov_all _)⟩ (.cons rfl rfl ⟨_, rfl, (by exact cov_all _)⟩ .nil)) (by kernel_rfl)), trivial⟩ ?_
        refine AG.fin ([.ex (.bool true)]) Go.Proofs.Tryd.f3 fn3 (.inr ⟨_, rfl⟩) (obs := []) (by kernel_rfl) trivial (by kernel_rfl) trivial (by kernel_rfl)
      · have q1 : decide (i < ((r + 1 : Nat) : Int)) = false := by simp; omega
        have co := katout_ok tb r F i (.inr (by omega))
        refine AG.rs 3 [([], [(1, { val := .ex (.bool true) }), (6, { val := .ex (.bool false) }), (11, useR [(0, 55, 0), (1, 47, 0)] 133 ({ val := .ex (.agg (List.toArray (List.replicate 16 (Value.int .u8 0)))), upd := [(0, .mix (.p 1 0 :: .ex (.int .i64 (↑r : Int)) :: List.map .ex (ar8 240 F))), (1, .own tb)], wks := [0, 1] })), (16, useR [(0, 1, 0), (1, 2, 0)] 153 ({ val := .ex (.bool true) }))])] [4] [0, 1, 2] 3 (todo' := [.code (sub (codeOf Tryd.f3) [1, 0, 1, 0, 1])]) (st' := ⟨mkT 100 [(4, .ex (.bool true))], [(0, .view (ar8 n z)), (1, .view mx), (2, .view um)], 3⟩) (obs := [Ob.eq (.ex (.bool (decide (i ≥ 0)))) (.ex (.bool true)), Ob.eq (.ex (.bool (decide (i < (↑(r + 1) : Int))))) (.ex (.bool false)), Ob.call (fun g => List.lookup g [(0, 1), (1, 2)]) 18 [.p 55 0, .ex (.int .i64 i)] [(55, .mix (.p 47 0 :: .ex (.int .i64 (↑r : Int)) :: List.map .ex (ar8 240 F))), (47, .own tb)] (useR [(0, 55, 0), (1, 47, 0)] 133 { val := .ex (.agg (List.toArray (List.replicate 16 (Value.int .u8 0)))), upd := [(0, .mix (.p 1 0 :: .ex (.int .i64 (↑r : Int)) :: List.map .ex (ar8 240 F))), (1, .own tb)], wks := [0, 1] }), Ob.call (fun g => List.lookup g [(0, 1), (1, 2)]) 19 [] [(1, .view mx), (2, .view um)] (useR [(0, 1, 0), (1, 2, 0)] 153 { val := .ex (.bool true) })]) (by kernel_rfl) (by kernel_rfl) ⟨(by simp only [Ob.holds, q0]), (by simp only [Ob.holds, q1]), (CallOK.at0 [(0, 55, 0), (1, 47, 0)] 133 (co ) (.cons (.p rfl) (.cons (.ex _) .nil)) (.cons rfl rfl ⟨_, rfl, rfl, (.cons (.p rfl) (.cons (.ex _) (FitL.exs _)))⟩ (.cons rfl rfl ⟨rfl, rfl⟩ .nil)) (by kernel_rfl)), (CallOK.at [(0, 1, 0), (1, 2, 0)] 153 (ca ) .nil (.cons rfl rfl ⟨_, rfl, (by exact cov_all _)⟩ (.cons rfl rfl ⟨_, rfl, (by exact cov_all _)⟩ .nil)) (by kernel_rfl)), trivial⟩ ?_
        refine AG.fin ([.ex (.bool true)]) Go.Proofs.Tryd.f3 fn3 (.inr ⟨_, rfl⟩) (obs := []) (by kernel_rfl) trivial (by kernel_rfl) trivial (by kernel_rfl)
theorem sched_ok (bs : List Int) (h8 : All8 bs) (i : Int) (hi : -9223372036854775808 ≤ i ∧ i ≤ 9223372036854775807) : CallOK Tryd.prog (fun g => [(0, 1), (1, 2)].lookup g) 3 [.sv 0 0 bs.length, .ex (.int .i64 i)] [(0, .view (bs.map (Value.int .u8))), (1, .view (mixL.map (Value.int .u8))), (2, .view (unmL.map (Value.int .u8)))] { val := .ex (.bool true) } := by
  by_cases hn : bs.length = 16 ∨ bs.length = 24 ∨ bs.length = 32
  · rw [← ar8_bAt]
    exact schedyes_ok bs.length hn (fun j => bAt bs j) (fun j _ => h8.at _) i hi
  · exact schedno_ok bs hn i
end Go.Proofs.YtlkihbmkekadeaaDoor.Ab
