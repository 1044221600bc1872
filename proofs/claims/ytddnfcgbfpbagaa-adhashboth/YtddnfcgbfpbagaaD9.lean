/- Own: laws of layer 12 followed: AdhashPads, AdhashBoth (no statement is proved here). -/
import Derived.Test.YtddnfcgbfpbagaaD8
import Derived.KernelRfl
namespace Go.Proofs.Ytddnfcgbfpbagaa.Ab
open Go.Proofs
set_option linter.unusedSimpArgs false
set_option linter.unusedVariables false
theorem fn8 : Try.prog.funcs[8]? = some Try.f8 := by kernel_rfl
theorem fn9 : Try.prog.funcs[9]? = some Try.f9 := by kernel_rfl
theorem fn34 : Try.prog.funcs[34]? = some Try.f34 := by kernel_rfl
theorem padL_padL (bs : List Int) : padL (padL bs) = padL bs := by
  have hu := up16_le bs.length
  have e : up16 (padL bs).length = up16 bs.length := by rw [len_padL]; unfold up16; omega
  apply List.ext_getElem?
  intro j
  by_cases hj : j < up16 bs.length
  · show (List.map (fun j : Nat => bAt (padL bs) (j : Int)) (List.range (up16 (padL bs).length)))[j]? = _
    rw [e, List.getElem?_map, List.getElem?_range hj]
    simp only [Option.map_some]
    rw [bAt_in _ _ (by omega) (by rw [len_padL]; omega), Int.toNat_natCast, List.getD_eq_getElem?_getD, List.getElem?_eq_getElem (by rw [len_padL]; omega)]
    rfl
  · rw [List.getElem?_eq_none (by rw [len_padL, e]; omega), List.getElem?_eq_none (by rw [len_padL]; omega)]
theorem bdF_pad (b w : Nat → Int) (bs : List Int) : bdF b w (padL bs) = bdF b w bs := by
  unfold bdF
  rw [padL_padL, len_padL, show (up16 bs.length + 1023) / 1024 = (bs.length + 1023) / 1024 by unfold up16; omega]
theorem apads_ok (kb bs : List Int) (hk8 : All8 kb) (h8 : All8 bs) : CallOK Try.prog (fun _ => none) 8 [.sv 0 0 kb.length, .sv 1 0 bs.length] [(0, .view (kb.map (Value.int .u8))), (1, .view (bs.map (Value.int .u8)))] { val := .ex (.bool true) } := by
  have cL := llong_ok kb.length
  by_cases hk : kb.length = 1104
  case neg =>
    have e3 : ((kb.length : Int) == 1104) = false := by simp; omega
    rw [e3] at cL
    refine CallOK.from0 hmix Try.f8 2 fn8 (by kernel_rfl) (by kernel_rfl) (fun wl ρ h1 h2 => ?_)
    refine AG.rk 4 [0, 1] [0, 1] 2 (todo' := [.code (sub (codeOf Try.f8) [1, 0, 0]), .code (sub (codeOf Try.f8) [1, 0, 1]), .code (sub (codeOf Try.f8) [1, 1])]) (st' := ⟨mkT 49 [(0, .sv 0 0 (List.length kb)), (1, .sv 1 0 (List.length bs))], [(0, .view (List.map (Value.int .u8) kb)), (1, .view (List.map (Value.int .u8) bs))], 2⟩) (by kernel_rfl) (by kernel_rfl) ?_
    refine AG.gk [] [(1, useR [(0, 0, 0)] 6 ({ val := .ex (.bool false) }))] [0, 1, 15] [0, 1] 2 (st' := ⟨mkT 49 [(0, .sv 0 0 (List.length kb)), (1, .sv 1 0 (List.length bs)), (15, .ex (.bool true))], [(0, .view (List.map (Value.int .u8) kb)), (1, .view (List.map (Value.int .u8) bs))], 2⟩) (obs := [Ob.call (fun g => List.lookup g []) 19 [.sv 0 0 (List.length kb)] [(0, .view (List.map (Value.int .u8) kb))] (useR [(0, 0, 0)] 6 { val := .ex (.bool false) })]) (by kernel_rfl) (by kernel_rfl) ⟨(CallOK.at0 [(0, 0, 0)] 6 (cL ) (.cons (.vv rfl) .nil) (.cons rfl rfl ⟨_, rfl, (by simp)⟩ .nil) (by kernel_rfl)), trivial⟩ ?_
    refine AG.rk 3 [4] [0, 1] 2 (todo' := [.code (sub (codeOf Try.f8) [1, 0, 1, 0, 1]), .code (sub (codeOf Try.f8) [1, 1])]) (st' := ⟨mkT 49 [(4, .ex (.bool true))], [(0, .view (List.map (Value.int .u8) kb)), (1, .view (List.map (Value.int .u8) bs))], 2⟩) (by kernel_rfl) (by kernel_rfl) ?_
    refine AG.fin ([.ex (.bool true)]) Go.Proofs.Try.f8 fn8 (.inr ⟨_, rfl⟩) (obs := []) (by kernel_rfl) trivial (by kernel_rfl) trivial (by kernel_rfl)
  have e3 : ((kb.length : Int) == 1104) = true := by simp; omega
  rw [e3] at cL
  by_cases hl : bs.length ≤ 300
  case neg =>
    have e1 : decide ((bs.length : Int) > 300) = true := by simp; omega
    refine CallOK.from0 hmix Try.f8 2 fn8 (by kernel_rfl) (by kernel_rfl) (fun wl ρ h1 h2 => ?_)
    refine AG.rk 4 [0, 1] [0, 1] 2 (todo' := [.code (sub (codeOf Try.f8) [1, 0, 0]), .code (sub (codeOf Try.f8) [1, 0, 1]), .code (sub (codeOf Try.f8) [1, 1])]) (st' := ⟨mkT 49 [(0, .sv 0 0 (List.length kb)), (1, .sv 1 0 (List.length bs))], [(0, .view (List.map (Value.int .u8) kb)), (1, .view (List.map (Value.int .u8) bs))], 2⟩) (by kernel_rfl) (by kernel_rfl) ?_
    refine AG.gk [] [(1, useR [(0, 0, 0)] 6 ({ val := .ex (.bool true) })), (6, { val := .ex (.bool true) })] [0, 1, 15] [0, 1] 2 (st' := ⟨mkT 49 [(0, .sv 0 0 (List.length kb)), (1, .sv 1 0 (List.length bs)), (15, .ex (.bool true))], [(0, .view (List.map (Value.int .u8) kb)), (1, .view (List.map (Value.int .u8) bs))], 2⟩) (obs := [Ob.call (fun g => List.lookup g []) 19 [.sv 0 0 (List.length kb)] [(0, .view (List.map (Value.int .u8) kb))] (useR [(0, 0, 0)] 6 { val := .ex (.bool true) }), Ob.eq (.ex (.bool (decide ((↑(List.length bs) : Int) > 300)))) (.ex (.bool true))]) (by kernel_rfl) (by kernel_rfl) ⟨(CallOK.at0 [(0, 0, 0)] 6 (cL ) (.cons (.vv rfl) .nil) (.cons rfl rfl ⟨_, rfl, (by simp)⟩ .nil) (by kernel_rfl)), (by simp only [Ob.holds, e1]), trivial⟩ ?_
    refine AG.rk 3 [4] [0, 1] 2 (todo' := [.code (sub (codeOf Try.f8) [1, 0, 1, 0, 1]), .code (sub (codeOf Try.f8) [1, 1])]) (st' := ⟨mkT 49 [(4, .ex (.bool true))], [(0, .view (List.map (Value.int .u8) kb)), (1, .view (List.map (Value.int .u8) bs))], 2⟩) (by kernel_rfl) (by kernel_rfl) ?_
    refine AG.fin ([.ex (.bool true)]) Go.Proofs.Try.f8 fn8 (.inr ⟨_, rfl⟩) (obs := []) (by kernel_rfl) trivial (by kernel_rfl) trivial (by kernel_rfl)
  have e1 : decide ((bs.length : Int) > 300) = false := by simp; omega
  have hB : A16 (kB kb) := fun j _ => (show All8 (kb.drop 16) from fun x hx => hk8 x (List.mem_of_mem_drop hx)).at _
  have c1 := anew_ok kb hk
  rw [show (fun i : Nat => bAt kb (i : Int)) = kA kb from rfl, show (fun i : Nat => bAt (kb.drop 16) (i : Int)) = kB kb from rfl] at c1
  have cb := fun (xs : List Int) (x8 : All8 xs) (hx : xs.length ≤ 90000) => body_ok (kA kb) (kB kb) (wOf (kb.drop 32)) hB xs x8 hx
  have c2 := cb bs h8 (by omega)
  have hu := up16_le bs.length
  have c3 := cb (padL bs) (all8_rngU _ _ fun j => h8.at (j : Int)) (by rw [len_padL]; omega)
  have c4 := cb [] (fun x hx => by cases hx) (by decide)
  rw [show lowv (tv (kn (kB kb)) (pcsL (wOf (kb.drop 32)) (padL (padL bs)) (((padL bs).length + 1023) / 1024))) = bdF (kB kb) (wOf (kb.drop 32)) (padL bs) from rfl, bdF_pad, len_padL] at c3
  rw [show lowv (tv (kn (kB kb)) (pcsL (wOf (kb.drop 32)) (padL bs) ((bs.length + 1023) / 1024))) = bdF (kB kb) (wOf (kb.drop 32)) bs from rfl] at c2
  rw [show lowv (tv (kn (kB kb)) (pcsL (wOf (kb.drop 32)) (padL []) ((([] : List Int).length + 1023) / 1024))) = fun _ => 0 from bdF_nil _ _] at c4
  unfold w2 at c2 c3 c4
  rw [show w2lo (fun _ => 0) = 0 from rfl, show w2hi (fun _ => 0) = 0 from rfl] at c4
  clear cb hB
  generalize w2lo (bdF (kB kb) (wOf (kb.drop 32)) bs) = X0 at *
  generalize w2hi (bdF (kB kb) (wOf (kb.drop 32)) bs) = X1 at *
  generalize adC (kA kb) (kB kb) (wOf (kb.drop 32)) = C at *
  refine CallOK.from0 hmix Try.f8 2 fn8 (by kernel_rfl) (by kernel_rfl) (fun wl ρ h1 h2 => ?_)
  refine AG.rk 4 [0, 1] [0, 1] 2 (todo' := [.code (sub (codeOf Try.f8) [1, 0, 0]), .code (sub (codeOf Try.f8) [1, 0, 1]), .code (sub (codeOf Try.f8) [1, 1])]) (st' := ⟨mkT 49 [(0, .sv 0 0 (List.length kb)), (1, .sv 1 0 (List.length bs))], [(0, .view (List.map (Value.int .u8) kb)), (1, .view (List.map (Value.int .u8) bs))], 2⟩) (by kernel_rfl) (by kernel_rfl) ?_
  refine AG.gk [] [(1, useR [(0, 0, 0)] 6 ({ val := .ex (.bool true) })), (6, { val := .ex (.bool false) })] [0, 1, 15] [0, 1] 2 (st' := ⟨mkT 49 [(0, .sv 0 0 (List.length kb)), (1, .sv 1 0 (List.length bs)), (15, .ex (.bool false))], [(0, .view (List.map (Value.int .u8) kb)), (1, .view (List.map (Value.int .u8) bs))], 2⟩) (obs := [Ob.call (fun g => List.lookup g []) 19 [.sv 0 0 (List.length kb)] [(0, .view (List.map (Value.int .u8) kb))] (useR [(0, 0, 0)] 6 { val := .ex (.bool true) }), Ob.eq (.ex (.bool (decide ((↑(List.length bs) : Int) > 300)))) (.ex (.bool false))]) (by kernel_rfl) (by kernel_rfl) ⟨(CallOK.at0 [(0, 0, 0)] 6 (cL ) (.cons (.vv rfl) .nil) (.cons rfl rfl ⟨_, rfl, (by simp)⟩ .nil) (by kernel_rfl)), (by simp only [Ob.holds, e1]), trivial⟩ ?_
  refine AG.rk 3 [0, 1] [0, 1] 2 (todo' := [.code (sub (codeOf Try.f8) [1, 1, 0]), .code (sub (codeOf Try.f8) [1, 1, 1])]) (st' := ⟨mkT 49 [(0, .sv 0 0 (List.length kb)), (1, .sv 1 0 (List.length bs))], [(0, .view (List.map (Value.int .u8) kb)), (1, .view (List.map (Value.int .u8) bs))], 2⟩) (by kernel_rfl) (by kernel_rfl) ?_
  refine AG.gk [] [(1, useR [(0, 0, 0)] 6 ({ val := .tup [.p 1 0, .ex (.int .i64 0)], upd := [(1, .own C)], nks := [1] }))] [1, 5, 6] [0, 1, 6] 7 (st' := ⟨mkT 49 [(1, .sv 1 0 (List.length bs)), (5, .p 6 0), (6, .ex (.int .i64 0))], [(0, .view (List.map (Value.int .u8) kb)), (1, .view (List.map (Value.int .u8) bs)), (6, .own C)], 7⟩) (obs := [Ob.call (fun g => List.lookup g []) 18 [.sv 0 0 (List.length kb)] [(0, .view (List.map (Value.int .u8) kb))] (useR [(0, 0, 0)] 6 { val := .tup [.p 1 0, .ex (.int .i64 0)], upd := [(1, .own C)], nks := [1] })]) (by kernel_rfl) (by kernel_rfl) ⟨(CallOK.at0 [(0, 0, 0)] 6 (c1 ) (.cons (.vv rfl) .nil) (.cons rfl rfl ⟨_, rfl, (by exact cov_all _)⟩ .nil) (by kernel_rfl)), trivial⟩ ?_
  refine AG.rk 6 [1, 5] [0, 1, 6] 7 (todo' := [.code (sub (codeOf Try.f8) [1, 1, 1, 1, 0]), .code (sub (codeOf Try.f8) [1, 1, 1, 1, 1])]) (st' := ⟨mkT 49 [(1, .sv 1 0 (List.length bs)), (5, .p 6 0)], [(0, .view (List.map (Value.int .u8) kb)), (1, .view (List.map (Value.int .u8) bs)), (6, .own C)], 7⟩) (by kernel_rfl) (by kernel_rfl) ?_
  refine AG.gk [2] [] [1, 5, 7] [0, 1, 6, 15] 16 (st' := ⟨mkT 49 [(1, .sv 1 0 (List.length bs)), (5, .p 6 0), (7, .o 15 0 (0 + List.length (List.take (List.length bs) (List.drop 0 (List.map (Value.int .u8) bs)))))], [(0, .view (List.map (Value.int .u8) kb)), (1, .view (List.map (Value.int .u8) bs)), (6, .own C), (15, .row ([] ++ List.take (List.length bs) (List.drop 0 (List.map (Value.int .u8) bs))))], 16⟩) (obs := [Ob.le ((0 + List.length (List.take (List.length bs) (List.drop 0 (List.map (Value.int .u8) bs)))) * 1) 140737488355328, Ob.le (0 + List.length (List.take (List.length bs) (List.drop 0 (List.map (Value.int .u8) bs)))) 140737488355328, Ob.one (List.take (List.length bs) (List.drop 0 (List.map (Value.int .u8) bs))), Ob.le (0 + List.length bs) (List.length (List.map (Value.int .u8) bs))]) (by kernel_rfl) (by kernel_rfl) ⟨(by (simp [Ob.holds]; omega)), (by (simp [Ob.holds]; omega)), (by exact one_take (one_map _ _) _), (by (simp [Ob.holds]; done)), trivial⟩ ?_
  refine AG.rk 2 [1, 5, 7] [0, 1, 6, 15] 16 (todo' := [.code (sub (codeOf Try.f8) [1, 1, 1, 1, 1, 0, 0]), .inBlock 0, .code (sub (codeOf Try.f8) [1, 1, 1, 1, 1, 1])]) (st' := ⟨mkT 49 [(1, .sv 1 0 (List.length bs)), (5, .p 6 0), (7, .o 15 0 (0 + List.length (List.take (List.length bs) (List.drop 0 (List.map (Value.int .u8) bs)))))], [(0, .view (List.map (Value.int .u8) kb)), (1, .view (List.map (Value.int .u8) bs)), (6, .own C), (15, .row ([] ++ List.take (List.length bs) (List.drop 0 (List.map (Value.int .u8) bs))))], 16⟩) (by kernel_rfl) (by kernel_rfl) ?_
  have eR : [] ++ List.take bs.length (List.drop 0 (List.map (Value.int IntKind.u8) bs)) = (bs ++ List.replicate 0 (0 : Int)).map (Value.int .u8) := by
    rw [List.drop_zero, List.take_of_length_le (by simp)]; simp
  have eL : 0 + (List.take bs.length (List.drop 0 (List.map (Value.int IntKind.u8) bs))).length = bs.length + 0 := by simp
  rewrite [eL, eR]
  refine AG.rk 1 [1, 5, 7] [0, 1, 6, 15] 16 (todo' := [.code (sub (codeOf Try.f8) [1, 1, 1, 1, 1, 0, 0, 0]), .inLoop (sub (codeOf Try.f8) [1, 1, 1, 1, 1, 0, 0, 0]), .inBlock 0, .code (sub (codeOf Try.f8) [1, 1, 1, 1, 1, 1])]) (st' := ⟨mkT 49 [(1, .sv 1 0 (List.length bs)), (5, .p 6 0), (7, .o 15 0 (List.length bs + 0))], [(0, .view (List.map (Value.int .u8) kb)), (1, .view (List.map (Value.int .u8) bs)), (6, .own C), (15, .row (List.map (Value.int .u8) (bs ++ List.replicate 0 0)))], 16⟩) (by kernel_rfl) (by kernel_rfl) ?_
  refine AG.indE (α := {k : Nat // bs.length + k ≤ up16 bs.length}) (fun k => up16 bs.length - k.1)
    (fun k => ⟨mkT 49 [(1, .sv 1 0 bs.length), (5, .p 6 0), (7, .o 15 0 (bs.length + k.1))], [(0, .view (kb.map (Value.int .u8))), (1, .view (bs.map (Value.int .u8))), (6, .own C), (15, .row ((bs ++ List.replicate k.1 (0 : Int)).map (Value.int .u8)))], 16⟩) ⟨0, by omega⟩ (by kernel_rfl) ?_
  rintro ⟨k, hk2⟩ ih
  simp only at hk2 ih ⊢
  have em : ((bs.length + k : Nat) : Int).tmod 16 = (((bs.length + k) % 16 : Nat) : Int) := by rw [Int.tmod_eq_emod_of_nonneg (by omega)]; omega
  have hrl : ((bs ++ List.replicate k (0 : Int)).map (Value.int .u8)).length = bs.length + k := by simp
  have hsu : ((bs ++ List.replicate k (0 : Int)).map (Value.int .u8)) ++ [Value.int .u8 0] = (bs ++ List.replicate (k + 1) (0 : Int)).map (Value.int .u8) := by
    rw [List.replicate_succ', ← List.append_assoc]
    exact (List.map_append (f := Value.int .u8) (l₁ := bs ++ List.replicate k (0 : Int)) (l₂ := [0])).symm
  have hpf := pad_full bs k
  by_cases h : (bs.length + k) % 16 = 0
  · have hkk : bs.length + k = up16 bs.length := by omega
    have g : ((((bs.length + k) % 16 : Nat) : Int) != 0) = false := by simp; omega
    clear ih hsu
    rw [← hpf hkk, ← hkk] at c3
    generalize hrow : (bs ++ List.replicate k (0 : Int)).map (Value.int .u8) = row at *
    have q1 : eqL [X0, X1] [X0, X1] = true := eqL_iff.2 rfl
    refine AG.rk 2 [1, 5, 7] [0, 1, 6, 15] 16 (todo' := [.code (sub (codeOf Try.f8) [1, 1, 1, 1, 1, 0, 0, 0, 0, 0]), .code (sub (codeOf Try.f8) [1, 1, 1, 1, 1, 0, 0, 0, 0, 1]), .code (sub (codeOf Try.f8) [1, 1, 1, 1, 1, 0, 0, 0, 1]), .inLoop (sub (codeOf Try.f8) [1, 1, 1, 1, 1, 0, 0, 0]), .inBlock 0, .code (sub (codeOf Try.f8) [1, 1, 1, 1, 1, 1])]) (st' := ⟨mkT 49 [(1, .sv 1 0 (List.length bs)), (5, .p 6 0), (7, .o 15 0 (List.length bs + k))], [(0, .view (List.map (Value.int .u8) kb)), (1, .view (List.map (Value.int .u8) bs)), (6, .own C), (15, .row row)], 16⟩) (by kernel_rfl) (by kernel_rfl) ?_
    refine AG.gk [] [(2, { val := .ex (.int .i64 (↑((List.length bs + k) % 16) : Int)) }), (3, { val := .ex (.bool false) })] [1, 5, 7, 29] [0, 1, 6, 15] 16 (st' := ⟨mkT 49 [(1, .sv 1 0 (List.length bs)), (5, .p 6 0), (7, .o 15 0 (List.length bs + k)), (29, .ex (.bool false))], [(0, .view (List.map (Value.int .u8) kb)), (1, .view (List.map (Value.int .u8) bs)), (6, .own C), (15, .row row)], 16⟩) (obs := [Ob.eq (.ex (.int .i64 (Int.tmod (↑(List.length bs + k) : Int) 16))) (.ex (.int .i64 (↑((List.length bs + k) % 16) : Int))), Ob.le 1 16, Ob.eq (.ex (.bool ((↑((List.length bs + k) % 16) : Int) != 0))) (.ex (.bool false))]) (by kernel_rfl) (by kernel_rfl) ⟨(by simp only [Ob.holds, em, g, q1]), (Ob.holds_of_dec (by kernel_rfl)), (by simp only [Ob.holds, em, g, q1]), trivial⟩ ?_
    refine AG.rk 3 [1, 5, 7] [0, 1, 6, 15] 16 (todo' := [.code (sub (codeOf Try.f8) [1, 1, 1, 1, 1, 1, 0]), .code (sub (codeOf Try.f8) [1, 0, 1, 0, 1])]) (st' := ⟨mkT 49 [(1, .sv 1 0 (List.length bs)), (5, .p 6 0), (7, .o 15 0 (List.length bs + k))], [(0, .view (List.map (Value.int .u8) kb)), (1, .view (List.map (Value.int .u8) bs)), (6, .own C), (15, .row row)], 16⟩) (by kernel_rfl) (by kernel_rfl) ?_
    refine AG.gk [] [(2, useR [(0, 6, 0), (1, 15, 0)] 24 ({ val := .ex (.agg #[Value.int .u64 X0, Value.int .u64 X1]) })), (5, useR [(0, 6, 0), (1, 1, 0)] 36 ({ val := .ex (.agg #[Value.int .u64 X0, Value.int .u64 X1]) })), (6, { val := .ex (.bool true) }), (9, useR [(0, 6, 0)] 52 ({ val := .ex (.agg #[Value.int .u64 0, Value.int .u64 0]) })), (14, { val := .ex (.bool true) })] [4] [0, 1] 2 (st' := ⟨mkT 49 [(4, .ex (.bool true))], [(0, .view (List.map (Value.int .u8) kb)), (1, .view (List.map (Value.int .u8) bs))], 2⟩) (obs := [Ob.call (fun g => List.lookup g []) 22 [.p 6 0, .o 15 0 (List.length bs + k)] [(6, .own C), (15, .row row)] (useR [(0, 6, 0), (1, 15, 0)] 24 { val := .ex (.agg #[Value.int .u64 X0, Value.int .u64 X1]) }), Ob.call (fun g => List.lookup g []) 22 [.p 6 0, .sv 1 0 (List.length bs)] [(6, .own C), (1, .view (List.map (Value.int .u8) bs))] (useR [(0, 6, 0), (1, 1, 0)] 36 { val := .ex (.agg #[Value.int .u64 X0, Value.int .u64 X1]) }), Ob.eq (.ex (.bool (eqL [X0, X1] [X0, X1]))) (.ex (.bool true)), Ob.call (fun g => List.lookup g []) 22 [.p 6 0, .ex (.slice none 0 0)] [(6, .own C)] (useR [(0, 6, 0)] 52 { val := .ex (.agg #[Value.int .u64 0, Value.int .u64 0]) }), Ob.call (fun g => List.lookup g []) 23 [] [] { val := .ex (.bool true) }]) (by kernel_rfl) (by kernel_rfl) ⟨(CallOK.at0 [(0, 6, 0), (1, 15, 0)] 24 (c3 ) (.cons (.p rfl) (.cons (.vo rfl) .nil)) (.cons rfl rfl ⟨_, rfl, (by exact cov_all _)⟩ (.cons rfl rfl ⟨_, rfl, (by exact cov_all _)⟩ .nil)) (by kernel_rfl)), (CallOK.at0 [(0, 6, 0), (1, 1, 0)] 36 (c2 ) (.cons (.p rfl) (.cons (.vv rfl) .nil)) (.cons rfl rfl ⟨_, rfl, (by exact cov_all _)⟩ (.cons rfl rfl ⟨_, rfl, (by exact cov_all _)⟩ .nil)) (by kernel_rfl)), (by simp only [Ob.holds, em, g, q1]), (CallOK.at0 [(0, 6, 0)] 52 (c4 ) (.cons (.p rfl) (.cons (.vx) .nil)) (.cons rfl rfl ⟨_, rfl, (by exact cov_all _)⟩ (.away rfl .nil)) (by kernel_rfl)), ((Go.Proofs.Ytddnfcgbfpbagaa.Ab.awake12_ok ).gl), trivial⟩ ?_
    refine AG.fin ([.ex (.bool true)]) Go.Proofs.Try.f8 fn8 (.inr ⟨_, rfl⟩) (obs := []) (by kernel_rfl) trivial (by kernel_rfl) trivial (by kernel_rfl)
  · have g : ((((bs.length + k) % 16 : Nat) : Int) != 0) = true := by simp; omega
    have hk' : bs.length + (k + 1) ≤ up16 bs.length := by omega
    have ih := ih ⟨k + 1, hk'⟩ (by simp only; omega)
    simp only at ih
    rw [← hsu] at ih
    generalize hrow : (bs ++ List.replicate k (0 : Int)).map (Value.int .u8) = row at *
    refine AG.rk 2 [1, 5, 7] [0, 1, 6, 15] 16 (todo' := [.code (sub (codeOf Try.f8) [1, 1, 1, 1, 1, 0, 0, 0, 0, 0]), .code (sub (codeOf Try.f8) [1, 1, 1, 1, 1, 0, 0, 0, 0, 1]), .code (sub (codeOf Try.f8) [1, 1, 1, 1, 1, 0, 0, 0, 1]), .inLoop (sub (codeOf Try.f8) [1, 1, 1, 1, 1, 0, 0, 0]), .inBlock 0, .code (sub (codeOf Try.f8) [1, 1, 1, 1, 1, 1])]) (st' := ⟨mkT 49 [(1, .sv 1 0 (List.length bs)), (5, .p 6 0), (7, .o 15 0 (List.length bs + k))], [(0, .view (List.map (Value.int .u8) kb)), (1, .view (List.map (Value.int .u8) bs)), (6, .own C), (15, .row row)], 16⟩) (by kernel_rfl) (by kernel_rfl) ?_
    refine AG.gk [] [(2, { val := .ex (.int .i64 (↑((List.length bs + k) % 16) : Int)) }), (3, { val := .ex (.bool true) })] [1, 5, 7, 29] [0, 1, 6, 15] 16 (st' := ⟨mkT 49 [(1, .sv 1 0 (List.length bs)), (5, .p 6 0), (7, .o 15 0 (List.length bs + k)), (29, .ex (.bool true))], [(0, .view (List.map (Value.int .u8) kb)), (1, .view (List.map (Value.int .u8) bs)), (6, .own C), (15, .row row)], 16⟩) (obs := [Ob.eq (.ex (.int .i64 (Int.tmod (↑(List.length bs + k) : Int) 16))) (.ex (.int .i64 (↑((List.length bs + k) % 16) : Int))), Ob.le 1 16, Ob.eq (.ex (.bool ((↑((List.length bs + k) % 16) : Int) != 0))) (.ex (.bool true))]) (by kernel_rfl) (by kernel_rfl) ⟨(by simp only [Ob.holds, em, g]), (Ob.holds_of_dec (by kernel_rfl)), (by simp only [Ob.holds, em, g]), trivial⟩ ?_
    refine AG.rk 3 [1, 5, 7] [0, 1, 6, 15] 16 (todo' := [.code (sub (codeOf Try.f8) [1, 1, 1, 1, 1, 0, 0, 0, 1, 0]), .inBlock 1, .inLoop (sub (codeOf Try.f8) [1, 1, 1, 1, 1, 0, 0, 0]), .inBlock 0, .code (sub (codeOf Try.f8) [1, 1, 1, 1, 1, 1])]) (st' := ⟨mkT 49 [(1, .sv 1 0 (List.length bs)), (5, .p 6 0), (7, .o 15 0 (List.length bs + k))], [(0, .view (List.map (Value.int .u8) kb)), (1, .view (List.map (Value.int .u8) bs)), (6, .own C), (15, .row row)], 16⟩) (by kernel_rfl) (by kernel_rfl) ?_
    refine AG.gk [2] [] [1, 5, 7] [0, 1, 6, 24] 25 (st' := ⟨mkT 49 [(1, .sv 1 0 (List.length bs)), (5, .p 6 0), (7, .o 24 0 (List.length row + 1))], [(0, .view (List.map (Value.int .u8) kb)), (1, .view (List.map (Value.int .u8) bs)), (6, .own C), (24, .row (row ++ List.take 1 (List.drop 0 [Value.int .u8 0])))], 25⟩) (obs := [Ob.le ((List.length row + 1) * 1) 140737488355328, Ob.le (List.length row + 1) 140737488355328, Ob.one [Value.int .u8 0], Ob.le (List.length bs + k) (List.length row), Ob.le (List.length row) (List.length bs + k), Ob.le 1 1]) (by kernel_rfl) (by kernel_rfl) ⟨(by (simp only [Ob.holds]; omega)), (by (simp only [Ob.holds]; omega)), (Ob.holds_of_dec (by kernel_rfl)), (by (simp only [Ob.holds]; omega)), (by (simp only [Ob.holds]; omega)), (Ob.holds_of_dec (by kernel_rfl)), trivial⟩ ?_
    refine AG.rk 2 [1, 5, 7] [0, 1, 6, 24] 25 (todo' := [.code (sub (codeOf Try.f8) [1, 1, 1, 1, 1, 0, 0, 0]), .inLoop (sub (codeOf Try.f8) [1, 1, 1, 1, 1, 0, 0, 0]), .inBlock 0, .code (sub (codeOf Try.f8) [1, 1, 1, 1, 1, 1])]) (st' := ⟨mkT 49 [(1, .sv 1 0 (List.length bs)), (5, .p 6 0), (7, .o 24 0 (List.length row + 1))], [(0, .view (List.map (Value.int .u8) kb)), (1, .view (List.map (Value.int .u8) bs)), (6, .own C), (24, .row (row ++ List.take 1 (List.drop 0 [Value.int .u8 0])))], 25⟩) (by kernel_rfl) (by kernel_rfl) ?_
    rewrite [show List.take 1 (List.drop 0 [Value.int IntKind.u8 0]) = [Value.int IntKind.u8 0] from rfl, hrl]
    refine AG.ren 24 15 rfl (by kernel_rfl) ?_
    refine AG.keep [1, 5, 7] [0, 1, 6, 15] 16 rfl (by kernel_rfl) ?_
    exact AG.conv (by kernel_rfl) ih
end Go.Proofs.Ytddnfcgbfpbagaa.Ab
