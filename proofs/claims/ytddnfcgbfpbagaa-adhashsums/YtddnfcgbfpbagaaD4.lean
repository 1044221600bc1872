/- Own: the reference of layer 12 (no statement is proved here). -/
import Derived.Test.YtddnfcgbfpbagaaD3w
import Derived.Test.YtddnfcgbfpbagaaQ4
import Derived.KernelRfl
namespace Go.Proofs.Ytddnfcgbfpbagaa.Ab
open Go.Proofs
set_option linter.unusedSimpArgs false
set_option linter.unusedVariables false
theorem fn25 : Try.prog.funcs[25]? = some Try.f25 := by kernel_rfl
theorem fn26 : Try.prog.funcs[26]? = some Try.f26 := by kernel_rfl
theorem fn27 : Try.prog.funcs[27]? = some Try.f27 := by kernel_rfl
theorem fn50 : Try.prog.funcs[50]? = some Try.f50 := by kernel_rfl
theorem rhash8_l (b : Nat → Int) (hb : A16 b) (bs : List Int) (h8 : All8 bs) (hl : bs.length ≤ 1000000) : CallOK Try.prog (fun _ => none) 45 [.ex (.agg (ar8 16 b).toArray), .sv 0 0 bs.length] [(0, .view (bs.map (Value.int .u8)))] { val := .ex (.agg (ar8 16 (lowv (tv (kn b) bs))).toArray) } := by
  have h := rhash8_ok b hb bs h8 hl
  rwa [ar8_congr (s := rst (tv (kn b) bs)) (t := lowv (tv (kn b) bs)) fun j hj => (low_rst _ j hj).symm] at h
theorem ar8_appD (m k : Nat) (f : Nat → Int) : ar8 m f ++ ar8 k (fun j => f (m + j)) = ar8 (m + k) f := by
  induction k with
  | zero => simp [ar8]
  | succ k ih => rw [← ar8_succ k, ← List.append_assoc, ih, ← Nat.add_assoc, ← ar8_succ]
theorem len8_app (m : Nat) : ar8 8 (putw (IntKind.u64.wrap ((m : Int) * 8))) ++ ar8 8 (putw ((m : Int) / 2305843009213693952)) = ar8 16 (len8 m) := by
  rw [← ar8_appD 8 8 (len8 m), ar8_congr (n := 8) (s := len8 m) (t := putw (IntKind.u64.wrap ((m : Int) * 8))) fun j hj => by unfold len8 wbytes; rw [if_pos hj],
    ar8_congr (n := 8) (s := fun j => len8 m (8 + j)) (t := putw ((m : Int) / 2305843009213693952)) fun j hj => by unfold len8 wbytes; rw [if_neg (by omega), show 8 + j - 8 = j by omega]]
theorem rkey1 (kb : List Int) (hk : kb.length = 1104) : CallOK Try.prog (fun _ => none) 46 [.sv 0 0 16] [(0, .view (List.take 16 (List.drop 0 (kb.map (Value.int .u8)))))] { val := .ex (.agg (ar8 16 (kA kb)).toArray) } := by
  have h := rblk_ok (List.take 16 kb) (by simp; omega)
  rw [show (List.take 16 kb).length = 16 by simp; omega, List.map_take, ar8_congr (s := fun i : Nat => bAt (List.take 16 kb) (0 + (i : Int))) (t := kA kb) fun j hj => by
    rw [Int.zero_add]; unfold kA
    rw [bAt_in _ _ (by omega) (by simp; omega), bAt_in _ _ (by omega) (by omega), Int.toNat_natCast, List.getD_eq_getElem?_getD, List.getD_eq_getElem?_getD, List.getElem?_take, if_pos hj]] at h
  exact h
theorem rkey2 (kb : List Int) (hk : kb.length = 1104) : CallOK Try.prog (fun _ => none) 46 [.sv 0 0 16] [(0, .view (List.take 16 (List.drop 16 (kb.map (Value.int .u8)))))] { val := .ex (.agg (ar8 16 (kB kb)).toArray) } := by
  have h := rblk_ok (List.take 16 (List.drop 16 kb)) (by simp; omega)
  rw [show (List.take 16 (List.drop 16 kb)).length = 16 by simp; omega, List.map_take, List.map_drop, ar8_congr (s := fun i : Nat => bAt (List.take 16 (List.drop 16 kb)) (0 + (i : Int))) (t := kB kb) fun j hj => by
    rw [Int.zero_add]; unfold kB
    rw [bAt_in _ _ (by omega) (by simp; omega), bAt_in _ _ (by omega) (by simp; omega), Int.toNat_natCast, List.getD_eq_getElem?_getD, List.getD_eq_getElem?_getD, List.getElem?_take, if_pos hj]] at h
  exact h
theorem rhead_ok (kb : List Int) (hk : kb.length = 1104) (hk8 : All8 kb) (t : List Int) (ht8 : All8 t) (htl : t.length ≤ 90000) (m : Nat) (hm : m ≤ 9223372036854775807) : CallOK Try.prog (fun _ => none) 25 [.sv 0 0 kb.length, .sv 1 0 t.length, .ex (.int .i64 (m : Int))] [(0, .view (kb.map (Value.int .u8))), (1, .view (t.map (Value.int .u8)))] { val := .ex (.agg (ar8 16 (hdF (kA kb) m t)).toArray) } := by
  have c1 := rkey1 kb hk
  have hA : A16 (kA kb) := fun j _ => hk8.at _
  have hL : All8 ((List.range 16).map (len8 m)) := all8_rngU _ _ fun j => r8_len8 m j
  have c2 := rhash8_l (kA kb) hA ((List.range 16).map (len8 m) ++ t) (all8_app hL ht8) (by simp; omega)
  rw [show lowv (tv (kn (kA kb)) ((List.range 16).map (len8 m) ++ t)) = hdF (kA kb) m t from rfl, List.map_append, mapr, List.length_append, List.length_map, List.length_range, ← len8_app m] at c2
  have e1 : IntKind.u64.wrap (m : Int) = (m : Int) := by rw [wrap_u64]; omega
  have e3 : (m : Int).fdiv 2305843009213693952 = (m : Int) / 2305843009213693952 := Int.fdiv_eq_ediv_of_nonneg _ (by decide)
  have c3 := rput8_ok (IntKind.u64.wrap ((m : Int) * 8)) (r64_wrap _)
  have c4 := rput8_ok ((m : Int) / 2305843009213693952) ⟨by omega, by omega⟩
  rw [hk]
  generalize hdF (kA kb) m t = H at *
  generalize kA kb = A at *
  generalize putw (IntKind.u64.wrap ((m : Int) * 8)) = P at *
  generalize putw ((m : Int) / 2305843009213693952) = Q at *
  generalize hK : kb.map (Value.int .u8) = K at *
  have hKl : K.length = 1104 := by rw [← hK, List.length_map, hk]
  obtain ⟨R, hR⟩ : ∃ R, R = ar8 8 P ++ ar8 8 Q := ⟨_, rfl⟩
  have hRl : R.length = 16 := by rw [hR]; rfl
  have hR1 : R.all (·.oneCell') = true := by rw [hR]; rfl
  rw [← hR] at c2
  refine CallOK.from0 hmix Try.f25 2 fn25 (by kernel_rfl) (by kernel_rfl) (fun wl ρ h1 h2 => ?_)
  refine AG.rk 3 [0, 1, 2, 6] [0, 1, 2] 3 (todo' := [.code (sub (codeOf Try.f25) [1, 0]), .code (sub (codeOf Try.f25) [1, 1])]) (st' := ⟨mkT 25 [(0, .sv 0 0 1104), (1, .sv 1 0 (List.length t)), (2, .ex (.int .i64 (↑m : Int))), (6, .p 2 0)], [(0, .view K), (1, .view (List.map (Value.int .u8) t)), (2, .own (List.replicate 16 (Value.int .u8 0)))], 3⟩) (by kernel_rfl) (by kernel_rfl) ?_
  refine AG.gk [] [(1, { val := .ex (.int .u64 (↑m : Int)) }), (3, useR [] 15 ({ val := .o 0 0 8, upd := [(0, .row (ar8 8 P))], nks := [0] }))] [0, 1, 2, 6, 7] [0, 1, 2, 15] 16 (st' := ⟨mkT 25 [(0, .sv 0 0 1104), (1, .sv 1 0 (List.length t)), (2, .ex (.int .i64 (↑m : Int))), (6, .p 2 0), (7, .o 15 0 8)], [(0, .view K), (1, .view (List.map (Value.int .u8) t)), (2, .own (List.replicate 16 (Value.int .u8 0))), (15, .row (ar8 8 P))], 16⟩) (obs := [Ob.eq (.ex (.int .u64 (IntKind.wrap .u64 (↑m : Int)))) (.ex (.int .u64 (↑m : Int))), Ob.call (fun g => List.lookup g []) 44 [.ex (.int .u64 (IntKind.wrap .u64 ((↑m : Int) * 8))), .ex (.int .i64 8)] [] (useR [] 15 { val := .o 0 0 8, upd := [(0, .row (ar8 8 P))], nks := [0] })]) (by kernel_rfl) (by kernel_rfl) ⟨(by simp only [Ob.holds, e1, e3]), (CallOK.at0 [] 15 (c3 ) (.cons (.ex _) (.cons (.ex _) .nil)) .nil (by kernel_rfl)), trivial⟩ ?_
  refine AG.rk 1 [0, 1, 2, 6, 7] [0, 1, 2, 15] 16 (todo' := [.code (sub (codeOf Try.f25) [1, 1, 0]), .code (sub (codeOf Try.f25) [1, 1, 1])]) (st' := ⟨mkT 25 [(0, .sv 0 0 1104), (1, .sv 1 0 (List.length t)), (2, .ex (.int .i64 (↑m : Int))), (6, .p 2 0), (7, .o 15 0 8)], [(0, .view K), (1, .view (List.map (Value.int .u8) t)), (2, .own (List.replicate 16 (Value.int .u8 0))), (15, .row (ar8 8 P))], 16⟩) (by kernel_rfl) (by kernel_rfl) ?_
  refine AG.gk [] [(2, { val := .ex (.int .u64 (↑m : Int)) }), (3, { val := .ex (.int .u64 ((↑m : Int) / 2305843009213693952)) }), (4, useR [] 32 ({ val := .o 0 0 8, upd := [(0, .row (ar8 8 Q))], nks := [0] }))] [0, 1, 6, 7] [0, 1, 2, 36] 37 (st' := ⟨mkT 25 [(0, .sv 0 0 1104), (1, .sv 1 0 (List.length t)), (6, .p 2 0), (7, .o 36 0 16)], [(0, .view K), (1, .view (List.map (Value.int .u8) t)), (2, .own (List.replicate 16 (Value.int .u8 0))), (36, .row (Value.int .u8 (P 0) :: Value.int .u8 (P 1) :: Value.int .u8 (P 2) :: Value.int .u8 (P 3) :: Value.int .u8 (P 4) :: Value.int .u8 (P 5) :: Value.int .u8 (P 6) :: Value.int .u8 (P 7) :: ar8 8 Q))], 37⟩) (obs := [Ob.eq (.ex (.int .u64 (IntKind.wrap .u64 (↑m : Int)))) (.ex (.int .u64 (↑m : Int))), Ob.eq (.ex (.int .u64 (Int.fdiv (↑m : Int) 2305843009213693952))) (.ex (.int .u64 ((↑m : Int) / 2305843009213693952))), Ob.call (fun g => List.lookup g []) 44 [.ex (.int .u64 ((↑m : Int) / 2305843009213693952)), .ex (.int .i64 8)] [] (useR [] 32 { val := .o 0 0 8, upd := [(0, .row (ar8 8 Q))], nks := [0] })]) (by kernel_rfl) (by kernel_rfl) ⟨(by simp only [Ob.holds, e1, e3]), (by simp only [Ob.holds, e1, e3]), (CallOK.at0 [] 32 (c4 ) (.cons (.ex _) (.cons (.ex _) .nil)) .nil (by kernel_rfl)), trivial⟩ ?_
  refine AG.rk 1 [0, 1, 6, 7] [0, 1, 2, 36] 37 (todo' := [.code (sub (codeOf Try.f25) [1, 1, 1, 0]), .code (sub (codeOf Try.f25) [1, 1, 1, 1])]) (st' := ⟨mkT 25 [(0, .sv 0 0 1104), (1, .sv 1 0 (List.length t)), (6, .p 2 0), (7, .o 36 0 16)], [(0, .view K), (1, .view (List.map (Value.int .u8) t)), (2, .own (List.replicate 16 (Value.int .u8 0))), (36, .row (Value.int .u8 (P 0) :: Value.int .u8 (P 1) :: Value.int .u8 (P 2) :: Value.int .u8 (P 3) :: Value.int .u8 (P 4) :: Value.int .u8 (P 5) :: Value.int .u8 (P 6) :: Value.int .u8 (P 7) :: ar8 8 Q))], 37⟩) (by kernel_rfl) (by kernel_rfl) ?_
  refine AG.re 36 (.row (ar8 8 P ++ ar8 8 Q)) (by kernel_rfl) ?_
  rewrite [← hR]
  refine AG.gk [5] [(2, useR [(0, 0, 0)] 45 ({ val := .ex (.agg (List.toArray (ar8 16 A))) })), (6, useR [(0, 57, 0)] 61 ({ val := .ex (.agg (List.toArray (ar8 16 H))) }))] [6] [0, 1, 2] 3 (st' := ⟨mkT 25 [(6, .p 2 0)], [(0, .view K), (1, .view (List.map (Value.int .u8) t)), (2, .own (ar8 16 H))], 3⟩) (obs := [Ob.call (fun g => List.lookup g []) 46 [.sv 0 0 16] [(0, .view K)] (useR [(0, 0, 0)] 45 { val := .ex (.agg (List.toArray (ar8 16 A))) }), Ob.le ((List.length R + List.length (List.take (List.length t) (List.drop 0 (List.map (Value.int .u8) t)))) * 1) 140737488355328, Ob.le (List.length R + List.length (List.take (List.length t) (List.drop 0 (List.map (Value.int .u8) t)))) 140737488355328, Ob.one (List.take (List.length t) (List.drop 0 (List.map (Value.int .u8) t))), Ob.le 16 (List.length R), Ob.le (List.length R) 16, Ob.le (0 + List.length t) (List.length (List.map (Value.int .u8) t)), Ob.call (fun g => List.lookup g []) 45 [.ex (.agg { toList := ar8 16 A }), .o 57 0 (List.length R + List.length (List.take (List.length t) (List.drop 0 (List.map (Value.int .u8) t))))] [(57, .row (R ++ List.take (List.length t) (List.drop 0 (List.map (Value.int .u8) t))))] (useR [(0, 57, 0)] 61 { val := .ex (.agg (List.toArray (ar8 16 H))) })]) (by kernel_rfl) (by kernel_rfl) ⟨(CallOK.at0 [(0, 0, 0)] 45 (c1 ) (.cons (.vvE rfl rfl (by (first | rfl | (simp; done) | (simp; omega) | omega | assumption))) .nil) (.cons rfl rfl ⟨_, rfl, (by (simp; done))⟩ .nil) (by kernel_rfl)), (by (simp [Ob.holds]; omega)), (by (simp [Ob.holds]; omega)), (by exact one_take (one_map _ _) _), (by (simp only [Ob.holds]; omega)), (by (simp only [Ob.holds]; omega)), (by (simp [Ob.holds]; done)), (CallOK.at0 [(0, 57, 0)] 61 (c2 ) (.cons (.ex _) (.cons (.voE rfl rfl (by (first | rfl | (simp; done) | (simp; omega) | omega | assumption))) .nil)) (.cons rfl rfl ⟨_, rfl, (by (first | rfl | exact cov_all _ | (simp; done) | (simp; omega) | (rw [List.map_take, List.map_drop]) | (simp [List.map_take, List.map_drop]; done) | (simp [List.map_take, List.map_drop, take_map_len]; done) | (refine cov_len ?_ ?_ <;> simp [List.map_take, List.map_drop, take_map_len] <;> omega) | (refine cov_len ?_ ?_ <;> simp <;> omega) | assumption))⟩ .nil) (by kernel_rfl)), trivial⟩ ?_
  refine AG.fin ([.ex (.agg { toList := ar8 16 H })]) Go.Proofs.Try.f25 fn25 (.inr ⟨_, rfl⟩) (obs := [Ob.le 16 16]) (by kernel_rfl) ⟨(Ob.holds_of_dec (by kernel_rfl)), trivial⟩ (by kernel_rfl) trivial (by kernel_rfl)
end Go.Proofs.Ytddnfcgbfpbagaa.Ab
