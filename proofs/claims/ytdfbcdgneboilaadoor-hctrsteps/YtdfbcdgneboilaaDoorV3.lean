/- Own: values, length blocks, rows (no statement is proved here). -/
import Derived.Test.YtdfbcdgneboilaaDoorV2
import Derived.KernelRfl
namespace Go.Proofs.YtdfbcdgneboilaaDoor.Ab
open Go.Proofs
set_option linter.unusedSimpArgs false
set_option linter.unusedVariables false
theorem stV_nought : stV (fun _ => 0) = stV (byt 0#128) := by
  unfold stV
  rw [show ar8 16 (fun _ => 0) = ar8 16 (byt 0#128) by kernel_rfl]
theorem vnew_x (h : E) : CallOK Tryd.prog (fun _ => none) 52 [.ex (.agg (ar8 16 (byt h)).toArray)] [] { val := .p 0 0, upd := [(0, .mix (stV (byt 0#128))), (1, .own (tabC h))], nks := [0, 1] } := by
  rw [← stV_nought]; exact vnew_e h
/-- The value of bytes. -/
def valV (h : E) (bs : List Int) : E := onV h 0#128 bs ((bs.length + 15) / 16)
theorem vsum_e (h : E) (bs : List Int) (h8 : All8 bs) (hl : bs.length ≤ 1000000) : CallOK Tryd.prog (fun _ => none) 34 [.ex (.agg (ar8 16 (byt h)).toArray), .sv 0 0 bs.length] [(0, .view (bs.map (Value.int .u8)))] { val := .ex (.agg (ar8 16 (byt (valV h bs))).toArray) } := by
  have c1 := vnew_x h
  have c2 := vwrite_e h 0#128 bs h8 hl
  have c3 := vvalue_e (byt (onV h 0#128 bs ((bs.length + 15) / 16))) (tabC h)
  unfold valV
  generalize byt (onV h 0#128 bs ((bs.length + 15) / 16)) = V at *
  generalize byt 0#128 = V0 at *
  generalize tabC h = Tb at *
  refine CallOK.from0 hmix Tryd.f34 1 fn34 (by kernel_rfl) (by kernel_rfl) (fun w ρ h1 h2 => ?_)
  refine AG.rk 3 [1, 2, 4] [0, 1, 5] 6 (todo' := [.code (sub (codeOf Tryd.f34) [1, 0]), .code (sub (codeOf Tryd.f34) [1, 1])]) (st' := ⟨mkT 13 [(1, .sv 0 0 (List.length bs)), (2, .p 1 0), (4, .p 5 0)], [(0, .view (List.map (Value.int .u8) bs)), (1, .own (ar8 16 (byt h))), (5, .own (List.replicate 16 (Value.int .u8 0)))], 6⟩) (by kernel_rfl) (by kernel_rfl) ?_
  refine AG.gk [] [(1, useR [] 10 ({ val := .p 0 0, upd := [(0, .mix (stV V0)), (1, .own Tb)], nks := [0, 1] }))] [1, 4, 5] [0, 5, 10, 11] 12 (st' := ⟨mkT 13 [(1, .sv 0 0 (List.length bs)), (4, .p 5 0), (5, .p 10 0)], [(0, .view (List.map (Value.int .u8) bs)), (5, .own (List.replicate 16 (Value.int .u8 0))), (10, .mix ([.p 11 0] ++ List.map .ex (ar8 16 V0))), (11, .own Tb)], 12⟩) (obs := [Ob.call (fun g => List.lookup g []) 52 [.ex (.agg { toList := ar8 16 (byt h) })] [] (useR [] 10 { val := .p 0 0, upd := [(0, .mix (stV V0)), (1, .own Tb)], nks := [0, 1] })]) (by kernel_rfl) (by kernel_rfl) ⟨(CallOK.at0 [] 10 (c1 ) (.cons (.ex _) .nil) .nil (by kernel_rfl)), trivial⟩ ?_
  refine AG.rk 1 [1, 4, 5] [0, 5, 10, 11] 12 (todo' := [.code (sub (codeOf Tryd.f34) [1, 1, 0]), .code (sub (codeOf Tryd.f34) [1, 1, 1])]) (st' := ⟨mkT 13 [(1, .sv 0 0 (List.length bs)), (4, .p 5 0), (5, .p 10 0)], [(0, .view (List.map (Value.int .u8) bs)), (5, .own (List.replicate 16 (Value.int .u8 0))), (10, .mix ([.p 11 0] ++ List.map .ex (ar8 16 V0))), (11, .own Tb)], 12⟩) (by kernel_rfl) (by kernel_rfl) ?_
  refine AG.gk [] [(2, useR [(0, 10, 0), (2, 0, 0), (1, 11, 0)] 20 ({ val := .tup [], upd := [(0, .mix (stV V))], wks := [0] }))] [4, 5] [0, 5, 10, 11] 12 (st' := ⟨mkT 13 [(4, .p 5 0), (5, .p 10 0)], [(0, .view (List.map (Value.int .u8) bs)), (5, .own (List.replicate 16 (Value.int .u8 0))), (10, .mix ([.p 11 0] ++ List.map .ex (ar8 16 V))), (11, .own Tb)], 12⟩) (obs := [Ob.call (fun g => List.lookup g []) 53 [.p 10 0, .sv 0 0 (List.length bs)] [(10, .mix ([.p 11 0] ++ List.map .ex (ar8 16 V0))), (0, .view (List.map (Value.int .u8) bs)), (11, .own Tb)] (useR [(0, 10, 0), (2, 0, 0), (1, 11, 0)] 20 { val := .tup [], upd := [(0, .mix (stV V))], wks := [0] })]) (by kernel_rfl) (by kernel_rfl) ⟨(CallOK.at0 [(0, 10, 0), (2, 0, 0), (1, 11, 0)] 20 (c2 ) (.cons (.p rfl) (.cons (.vv rfl) .nil)) (.cons rfl rfl ⟨_, rfl, rfl, (.cons (.p rfl) (FitL.exs _))⟩ (.cons rfl rfl ⟨_, rfl, (by exact cov_all _)⟩ (.cons rfl rfl ⟨_, rfl, (by exact cov_all _)⟩ .nil))) (by kernel_rfl)), trivial⟩ ?_
  refine AG.rk 1 [4, 5] [0, 5, 10, 11] 12 (todo' := [.code (sub (codeOf Tryd.f34) [1, 1, 1, 0]), .code (sub (codeOf Tryd.f34) [1, 1, 1, 1])]) (st' := ⟨mkT 13 [(4, .p 5 0), (5, .p 10 0)], [(0, .view (List.map (Value.int .u8) bs)), (5, .own (List.replicate 16 (Value.int .u8 0))), (10, .mix ([.p 11 0] ++ List.map .ex (ar8 16 V))), (11, .own Tb)], 12⟩) (by kernel_rfl) (by kernel_rfl) ?_
  refine AG.gk [] [(1, useR [(0, 10, 0), (1, 11, 0)] 16 ({ val := .ex (.agg (List.toArray (ar8 16 V))) }))] [4] [0, 5] 6 (st' := ⟨mkT 13 [(4, .p 5 0)], [(0, .view (List.map (Value.int .u8) bs)), (5, .own (ar8 16 V))], 6⟩) (obs := [Ob.call (fun g => List.lookup g []) 54 [.p 10 0] [(10, .mix ([.p 11 0] ++ List.map .ex (ar8 16 V))), (11, .own Tb)] (useR [(0, 10, 0), (1, 11, 0)] 16 { val := .ex (.agg (List.toArray (ar8 16 V))) })]) (by kernel_rfl) (by kernel_rfl) ⟨(CallOK.at0 [(0, 10, 0), (1, 11, 0)] 16 (c3 ) (.cons (.p rfl) .nil) (.cons rfl rfl ⟨_, .inl rfl, rfl, (.cons (.p rfl) (FitL.exs _)), (by simp)⟩ (.cons rfl rfl ⟨_, rfl, (by exact cov_all _)⟩ .nil)) (by kernel_rfl)), trivial⟩ ?_
  refine AG.fin ([.ex (.agg { toList := ar8 16 V })]) Go.Proofs.Tryd.f34 fn34 (.inr ⟨_, rfl⟩) (obs := [Ob.le 16 16]) (by kernel_rfl) ⟨(Ob.holds_of_dec (by kernel_rfl)), trivial⟩ (by kernel_rfl) trivial (by kernel_rfl)
def lenB (n : Nat) (c : Int) : Nat → Int := dig (16 * (n : Int) + c)
theorem lenB_eq (n : Nat) (c : Int) (hc : c = 2 ∨ c = 3) (hn : n ≤ 9223372036854775807) (j : Nat) (hj : j < 16) : wbytes (plusLo (16 * (n : Int) % 18446744073709551616) c) (plusHi (16 * (n : Int) % 18446744073709551616) ((n : Int) / 1152921504606846976) c 0) j = lenB n c j := by
  have e1 : plusLo (16 * (n : Int) % 18446744073709551616) c = (16 * (n : Int) + c) % 18446744073709551616 := by unfold plusLo; omega
  have e2 : plusHi (16 * (n : Int) % 18446744073709551616) ((n : Int) / 1152921504606846976) c 0 = (16 * (n : Int) + c) / 18446744073709551616 := by unfold plusHi; omega
  rw [e1, e2]
  unfold lenB dig wbytes
  generalize 16 * (n : Int) + c = v
  rcases (by omega : j = 0 ∨ j = 1 ∨ j = 2 ∨ j = 3 ∨ j = 4 ∨ j = 5 ∨ j = 6 ∨ j = 7 ∨ j = 8 ∨ j = 9 ∨ j = 10 ∨ j = 11 ∨ j = 12 ∨ j = 13 ∨ j = 14 ∨ j = 15) with rfl | rfl | rfl | rfl | rfl | rfl | rfl | rfl | rfl | rfl | rfl | rfl | rfl | rfl | rfl | rfl <;> (simp [putw_eq]; try omega)
theorem length_ok (n : Nat) (hn : n ≤ 9223372036854775807) (wh : Bool) : CallOK Tryd.prog (fun _ => none) 55 [.ex (.int .i64 (n : Int)), .ex (.bool wh)] [] { val := .ex (.agg (ar8 16 (lenB n (if wh then 2 else 3))).toArray) } := by
  have g0 : decide ((n : Int) < 0) = false := by simp
  have p2 := wplus_ok (16 * (n : Int) % 18446744073709551616) ((n : Int) / 1152921504606846976) 2 0 (by unfold R64; omega) (by unfold R64; omega) ⟨by decide, by decide⟩ ⟨by decide, by decide⟩
  have p3 := wplus_ok (16 * (n : Int) % 18446744073709551616) ((n : Int) / 1152921504606846976) 3 0 (by unfold R64; omega) (by unfold R64; omega) ⟨by decide, by decide⟩ ⟨by decide, by decide⟩
  have b2 := bytes_ok (plusLo (16 * (n : Int) % 18446744073709551616) 2) (plusHi (16 * (n : Int) % 18446744073709551616) ((n : Int) / 1152921504606846976) 2 0)
  have b3 := bytes_ok (plusLo (16 * (n : Int) % 18446744073709551616) 3) (plusHi (16 * (n : Int) % 18446744073709551616) ((n : Int) / 1152921504606846976) 3 0)
  rw [ar8_congr (lenB_eq n 2 (.inl rfl) hn)] at b2
  rw [ar8_congr (lenB_eq n 3 (.inr rfl) hn)] at b3
  have e1 : IntKind.u64.wrap (IntKind.u64.wrap (n : Int) * 16) = 16 * (n : Int) % 18446744073709551616 := by simp only [wrap_u64]; omega
  have e2 : (IntKind.u64.wrap (n : Int)).fdiv 1152921504606846976 = (n : Int) / 1152921504606846976 := by rw [wrap_u64, Int.fdiv_eq_ediv_of_nonneg _ (by decide)]; omega
  generalize lenB n = L at *
  generalize 16 * (n : Int) % 18446744073709551616 = A at *
  generalize (n : Int) / 1152921504606846976 = B at *
  cases wh
  · refine CallOK.from0 hmix Tryd.f55 0 fn55 (by kernel_rfl) (by kernel_rfl) (fun w ρ h1 h2 => ?_)
    refine AG.rk 8 [0, 1, 4] [0] 1 (todo' := [.code (sub (codeOf Tryd.f55) [1, 1, 0]), .code (sub (codeOf Tryd.f55) [1, 1, 1])]) (st' := ⟨mkT 25 [(0, .ex (.int .i64 (↑n : Int))), (1, .ex (.bool false)), (4, .p 0 0)], [(0, .own (List.replicate 16 (Value.int .u8 0)))], 1⟩) (by kernel_rfl) (by kernel_rfl) ?_
    refine AG.gk [] [(2, { val := .ex (.int .u64 A) }), (5, { val := .ex (.int .u64 B) })] [1, 4, 5] [0, 29] 30 (st' := ⟨mkT 25 [(1, .ex (.bool false)), (4, .p 0 0), (5, .p 29 0)], [(0, .own (List.replicate 16 (Value.int .u8 0))), (29, .own [Value.int .u64 A, Value.int .u64 B])], 30⟩) (obs := [Ob.eq (.ex (.int .u64 (IntKind.wrap .u64 (IntKind.wrap .u64 (↑n : Int) * 16)))) (.ex (.int .u64 A)), Ob.eq (.ex (.int .u64 (Int.fdiv (IntKind.wrap .u64 (↑n : Int)) 1152921504606846976))) (.ex (.int .u64 B))]) (by kernel_rfl) (by kernel_rfl) ⟨(by simp only [Ob.holds, e1]), (by simp only [Ob.holds, e2]), trivial⟩ ?_
    refine AG.rk 6 [4, 5] [0, 29] 30 (todo' := [.code (sub (codeOf Tryd.f55) [1, 1, 1, 1, 0]), .code (sub (codeOf Tryd.f55) [1, 0, 1, 0, 1])]) (st' := ⟨mkT 25 [(4, .p 0 0), (5, .p 29 0)], [(0, .own (List.replicate 16 (Value.int .u8 0))), (29, .own [Value.int .u64 A, Value.int .u64 B])], 30⟩) (by kernel_rfl) (by kernel_rfl) ?_
    refine AG.gk [] [(2, { val := .ex (.agg #[Value.int .u64 (plusLo A 3), Value.int .u64 (plusHi A B 3 0)]) }), (3, { val := .ex (.agg (List.toArray (ar8 16 (L 3)))) })] [4] [0] 1 (st' := ⟨mkT 25 [(4, .p 0 0)], [(0, .own (ar8 16 (L 3)))], 1⟩) (obs := [Ob.call (fun g => List.lookup g []) 70 [.ex (.agg { toList := [Value.int .u64 A, Value.int .u64 B] }), .ex (.agg { toList := [Value.int .u64 3, Value.int .u64 0] })] [] { val := .ex (.agg #[Value.int .u64 (plusLo A 3), Value.int .u64 (plusHi A B 3 0)]) }, Ob.call (fun g => List.lookup g []) 58 [.ex (.agg { toList := [Value.int .u64 (plusLo A 3), Value.int .u64 (plusHi A B 3 0)] })] [] { val := .ex (.agg (List.toArray (ar8 16 (L 3)))) }]) (by kernel_rfl) (by kernel_rfl) ⟨((p3 ).gl), ((b3 ).gl), trivial⟩ ?_
    refine AG.fin ([.ex (.agg { toList := ar8 16 (L 3) })]) Go.Proofs.Tryd.f55 fn55 (.inr ⟨_, rfl⟩) (obs := [Ob.le 16 16]) (by kernel_rfl) ⟨(Ob.holds_of_dec (by kernel_rfl)), trivial⟩ (by kernel_rfl) trivial (by kernel_rfl)
  · refine CallOK.from0 hmix Tryd.f55 0 fn55 (by kernel_rfl) (by kernel_rfl) (fun w ρ h1 h2 => ?_)
    refine AG.rk 8 [0, 1, 4] [0] 1 (todo' := [.code (sub (codeOf Tryd.f55) [1, 1, 0]), .code (sub (codeOf Tryd.f55) [1, 1, 1])]) (st' := ⟨mkT 25 [(0, .ex (.int .i64 (↑n : Int))), (1, .ex (.bool true)), (4, .p 0 0)], [(0, .own (List.replicate 16 (Value.int .u8 0)))], 1⟩) (by kernel_rfl) (by kernel_rfl) ?_
    refine AG.gk [] [(2, { val := .ex (.int .u64 A) }), (5, { val := .ex (.int .u64 B) })] [1, 4, 5] [0, 29] 30 (st' := ⟨mkT 25 [(1, .ex (.bool true)), (4, .p 0 0), (5, .p 29 0)], [(0, .own (List.replicate 16 (Value.int .u8 0))), (29, .own [Value.int .u64 A, Value.int .u64 B])], 30⟩) (obs := [Ob.eq (.ex (.int .u64 (IntKind.wrap .u64 (IntKind.wrap .u64 (↑n : Int) * 16)))) (.ex (.int .u64 A)), Ob.eq (.ex (.int .u64 (Int.fdiv (IntKind.wrap .u64 (↑n : Int)) 1152921504606846976))) (.ex (.int .u64 B))]) (by kernel_rfl) (by kernel_rfl) ⟨(by simp only [Ob.holds, e1]), (by simp only [Ob.holds, e2]), trivial⟩ ?_
    refine AG.rk 5 [4, 5] [0, 29] 30 (todo' := [.code (sub (codeOf Tryd.f55) [1, 1, 1, 0, 1, 0, 0]), .code (sub (codeOf Tryd.f55) [1, 0, 1, 0, 1]), .code (sub (codeOf Tryd.f55) [1, 1, 1, 1])]) (st' := ⟨mkT 25 [(4, .p 0 0), (5, .p 29 0)], [(0, .own (List.replicate 16 (Value.int .u8 0))), (29, .own [Value.int .u64 A, Value.int .u64 B])], 30⟩) (by kernel_rfl) (by kernel_rfl) ?_
    refine AG.gk [] [(2, { val := .ex (.agg #[Value.int .u64 (plusLo A 2), Value.int .u64 (plusHi A B 2 0)]) }), (3, { val := .ex (.agg (List.toArray (ar8 16 (L 2)))) })] [4] [0] 1 (st' := ⟨mkT 25 [(4, .p 0 0)], [(0, .own (ar8 16 (L 2)))], 1⟩) (obs := [Ob.call (fun g => List.lookup g []) 70 [.ex (.agg { toList := [Value.int .u64 A, Value.int .u64 B] }), .ex (.agg { toList := [Value.int .u64 2, Value.int .u64 0] })] [] { val := .ex (.agg #[Value.int .u64 (plusLo A 2), Value.int .u64 (plusHi A B 2 0)]) }, Ob.call (fun g => List.lookup g []) 58 [.ex (.agg { toList := [Value.int .u64 (plusLo A 2), Value.int .u64 (plusHi A B 2 0)] })] [] { val := .ex (.agg (List.toArray (ar8 16 (L 2)))) }]) (by kernel_rfl) (by kernel_rfl) ⟨((p2 ).gl), ((b2 ).gl), trivial⟩ ?_
    refine AG.fin ([.ex (.agg { toList := ar8 16 (L 2) })]) Go.Proofs.Tryd.f55 fn55 (.inr ⟨_, rfl⟩) (obs := [Ob.le 16 16]) (by kernel_rfl) ⟨(Ob.holds_of_dec (by kernel_rfl)), trivial⟩ (by kernel_rfl) trivial (by kernel_rfl)
end Go.Proofs.YtdfbcdgneboilaaDoor.Ab
