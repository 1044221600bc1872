/- Own: a hash of layer 6 as a block, and what compress makes of it (no statement is proved here). -/
import Derived.Test.YtfdkdbbigpphcaaDoorK4
import Derived.Test.YtfdkdbbigpphcaaDoorO2
import Derived.KernelRfl
namespace Go.Proofs.YtfdkdbbigpphcaaDoor.Ab
open Go.Proofs
set_option linter.unusedSimpArgs false
set_option linter.unusedVariables false
set_option maxRecDepth 4000
theorem fn75 : Tryd.prog.funcs[75]? = some Tryd.f75 := by kernel_rfl
/-- A hash as a block: its size, its numbers, its count's lower half, what waits and how much. -/
def hC (size : Int) (h : Nat → Int) (lo : Int) (W : List Int) (f : Int) : List Value := [.int .i64 size] ++ ar64 8 h ++ [.int .u64 lo, .int .u64 0] ++ W.map (Value.int .u8) ++ [.int .i64 f]
theorem hC_len (size : Int) (h : Nat → Int) (lo : Int) (W : List Int) (f : Int) (hW : W.length = 128) : (hC size h lo W f).length = 140 := by
  unfold hC; simp [length_ar64, hW]
theorem hC_one (size : Int) (h : Nat → Int) (lo : Int) (W : List Int) (f : Int) : (hC size h lo W f).all (·.oneCell') = true := by
  unfold hC
  rw [List.all_append, List.all_append, List.all_append, List.all_append, show (ar64 8 h).all (·.oneCell') = true from one_arr _ _ _, one_map _ _]; rfl
theorem hC_size (size : Int) (h : Nat → Int) (lo : Int) (W : List Int) (f : Int) : (hC size h lo W f).getD 0 undef = .int .i64 size := rfl
theorem hC_num (size : Int) (h : Nat → Int) (lo : Int) (W : List Int) (f : Int) : List.take 8 (List.drop 1 (hC size h lo W f)) = ar64 8 h := rfl
theorem hC_count (size : Int) (h : Nat → Int) (lo : Int) (W : List Int) (f : Int) : List.take 2 (List.drop 9 (hC size h lo W f)) = [.int .u64 lo, .int .u64 0] := rfl
theorem hC_tail (size : Int) (h : Nat → Int) (lo : Int) (W : List Int) (f : Int) : List.drop 11 (hC size h lo W f) = W.map (Value.int .u8) ++ [.int .i64 f] := rfl
theorem hC_wait (size : Int) (h : Nat → Int) (lo : Int) (W : List Int) (f : Int) (hW : W.length = 128) : List.take 128 (List.drop 11 (hC size h lo W f)) = W.map (Value.int .u8) := by
  rw [hC_tail, List.take_append_of_le_length (by simp [hW])]
  exact List.take_of_length_le (by simp [hW])
theorem hC_fill (size : Int) (h : Nat → Int) (lo : Int) (W : List Int) (f : Int) (hW : W.length = 128) : (hC size h lo W f).getD 139 undef = .int .i64 f := by
  have : (hC size h lo W f)[139]? = (List.drop 11 (hC size h lo W f))[128]? := by rw [List.getElem?_drop]
  rw [List.getD_eq_getElem?_getD, this, hC_tail, List.getElem?_append_right (by simp [hW])]
  simp [hW]
theorem hC_pcount (size : Int) (h : Nat → Int) (lo : Int) (W : List Int) (f a : Int) : putAt (hC size h lo W f) 9 (Value.agg { toList := [Value.int .u64 a, Value.int .u64 0] }).cells.toList = hC size h a W f := rfl
theorem hC_pnum (size : Int) (h g : Nat → Int) (lo : Int) (W : List Int) (f : Int) : putAt (hC size h lo W f) 1 (Value.agg { toList := ar64 8 g }).cells.toList = hC size g lo W f := rfl
theorem hC_put (size : Int) (h : Nat → Int) (lo : Int) (W : List Int) (f : Int) (hW : W.length = 128) (vs : List Value) (n : Nat) (hn : n + vs.length ≤ 129) : putAt (hC size h lo W f) (11 + n) vs = [.int .i64 size] ++ ar64 8 h ++ [.int .u64 lo, .int .u64 0] ++ (List.take n (W.map (Value.int .u8) ++ [.int .i64 f]) ++ vs ++ List.drop (n + vs.length) (W.map (Value.int .u8) ++ [.int .i64 f])) := by
  have hl : ([.int .i64 size] ++ ar64 8 h ++ [.int .u64 lo, .int .u64 0] : List Value).length = 11 := rfl
  rw [putAt_eq _ _ _ (by rw [hC_len _ _ _ _ _ hW]; omega)]
  have e : hC size h lo W f = ([.int .i64 size] ++ ar64 8 h ++ [.int .u64 lo, .int .u64 0]) ++ (W.map (Value.int .u8) ++ [.int .i64 f]) := by unfold hC; simp only [List.append_assoc]
  rw [e, List.take_append, List.drop_append, hl, List.take_of_length_le (by rw [hl]; omega), show 11 + n - 11 = n by omega, List.drop_of_length_le (by rw [hl]; omega), show 11 + n + vs.length - 11 = n + vs.length by omega, List.nil_append]
  simp only [List.append_assoc]
theorem hC_pfill (size : Int) (h : Nat → Int) (lo : Int) (W : List Int) (f g : Int) (hW : W.length = 128) : putAt (hC size h lo W f) 139 (Value.int .i64 g).cells.toList = hC size h lo W g := by
  have := hC_put size h lo W f hW (Value.int .i64 g).cells.toList 128 (by show 128 + 1 ≤ 129; omega)
  rw [show (139 : Nat) = 11 + 128 from rfl, this]
  rw [List.take_append_of_le_length (by simp [hW]), List.take_of_length_le (by simp [hW]), List.drop_of_length_le (by show _ ≤ 128 + 1; simp [hW]), List.append_nil]
  unfold hC
  simp only [List.append_assoc]
  rfl
theorem hC_pwait (size : Int) (h : Nat → Int) (lo : Int) (W : List Int) (f : Int) (hW : W.length = 128) : putAt (hC size h lo W f) 11 (Value.agg { toList := List.replicate 128 (Value.int .u8 0) }).cells.toList = hC size h lo (List.replicate 128 0) f := by
  show putAt (hC size h lo W f) 11 (List.replicate 128 (Value.int .u8 0)) = _
  have := hC_put size h lo W f hW (List.replicate 128 (Value.int .u8 0)) 0 (by simp)
  rw [show (11 : Nat) = 11 + 0 from rfl, this, List.take_zero, List.nil_append, List.length_replicate, List.drop_append, List.drop_of_length_le (by simp [hW]), List.nil_append]
  unfold hC
  rw [List.map_replicate]
  simp [hW]
theorem plus_small (lo : Int) (f : Nat) (hlo : 0 ≤ lo ∧ lo ≤ 9223372036854775807) (hf : f ≤ 128) : plusLo lo (f : Int) = lo + f ∧ plusHi lo 0 (f : Int) 0 = 0 := by
  unfold plusLo plusHi
  omega
theorem compress_any (h : Nat → Int) (B : List Int) (hB : B.length = 128) (lo hi : Int) (last : Bool) (rcs : List Value) (hr : rcs = krcs) : CallOK Tryd.prog (fun g => [(0, 0), (3, 1)].lookup g) 92 [.ex (.agg (ar64 8 h).toArray), .ex (.agg (B.map (Value.int .u8)).toArray), .ex (.agg #[.int .u64 lo, .int .u64 hi]), .ex (.bool last)] [(0, .view (kfirst.map (Value.int .u64))), (1, .view rcs)] { val := .ex (.agg (ar64 8 (kcmp h B lo hi last)).toArray) } := by
  cases last
  · exact compressF_ok h B hB lo hi rcs hr
  · exact compressT_ok h B hB lo hi rcs hr
theorem hcomp_ok (size : Int) (h : Nat → Int) (lo : Int) (W : List Int) (hW : W.length = 128) (f : Nat) (hf : f ≤ 128) (hlo : 0 ≤ lo ∧ lo ≤ 9223372036854775807) (last : Bool) {rcs : List Value} (hr : rcs = krcs) : CallOK Tryd.prog (fun g => [(0, 1), (3, 2)].lookup g) 75 [.p 0 0, .ex (.bool last)] [(0, .own (hC size h lo W f)), (1, .view (kfirst.map (Value.int .u64))), (2, .view rcs)] { val := .tup [], upd := [(0, .own (hC size (kcmp h W (lo + f) 0 last) (lo + f) (List.replicate 128 0) 0))], wks := [0] } := by
  obtain ⟨C, hC0⟩ : ∃ C, C = hC size h lo W f := ⟨_, rfl⟩
  rw [← hC0]
  have l0 : C.length = 140 := by rw [hC0]; exact hC_len _ _ _ _ _ hW
  have o0 := hC_one size h lo W f
  rw [← hC0] at o0
  have c0 := hC_count size h lo W f
  rw [← hC0] at c0
  have f0 := hC_fill size h lo W f hW
  rw [← hC0] at f0
  have cp := wplus_ok lo 0 (f : Int) 0 (by unfold R64; omega) ⟨by decide, by decide⟩ (by unfold R64; omega) ⟨by decide, by decide⟩
  have w1 : IntKind.u64.wrap (f : Int) = (f : Int) := by rw [wrap_u64]; omega
  refine CallOK.from hmix Tryd.f75 3 fn75 (by kernel_rfl) (by kernel_rfl) (fun wl ρ h1 h2 => ?_)
  obtain ⟨p1, p2⟩ := plus_small lo f hlo hf
  rw [p1, p2] at cp
  refine AG.rk 1 [0, 1] [0, 1, 2] 3 (todo' := [.code (sub (codeOf Tryd.f75) [0]), .code (sub (codeOf Tryd.f75) [1])]) (st' := ⟨mkT 42 [(0, .p 0 0), (1, .ex (.bool last))], [(0, .own C), (1, .view [Value.int .u64 7640891576956012808, Value.int .u64 13503953896175478587, Value.int .u64 4354685564936845355, Value.int .u64 11912009170470909681, Value.int .u64 5840696475078001361, Value.int .u64 11170449401992604703, Value.int .u64 2270897969802886507, Value.int .u64 6620516959819538809]), (2, .view rcs)], 3⟩) (by kernel_rfl) (by kernel_rfl) ?_
  refine AG.gk [14] [(4, { val := .ex (.agg { toList := [Value.int .u64 lo, Value.int .u64 0] }) }), (8, { val := .ex (.int .i64 (↑f : Int)) }), (9, { val := .ex (.int .u64 (↑f : Int)) }), (11, { val := .ex (.agg #[Value.int .u64 (lo + (↑f : Int)), Value.int .u64 0]) })] [0, 1] [0, 1, 2] 3 (st' := ⟨mkT 42 [(0, .p 0 0), (1, .ex (.bool last))], [(0, .own (putAt C 9 (Value.cells (Value.agg { toList := [Value.int .u64 (lo + (↑f : Int)), Value.int .u64 0] })).toList)), (1, .view [Value.int .u64 7640891576956012808, Value.int .u64 13503953896175478587, Value.int .u64 4354685564936845355, Value.int .u64 11912009170470909681, Value.int .u64 5840696475078001361, Value.int .u64 11170449401992604703, Value.int .u64 2270897969802886507, Value.int .u64 6620516959819538809]), (2, .view rcs)], 3⟩) (obs := [Ob.eq (.ex (.agg { toList := List.take 2 (List.drop 9 C) })) (.ex (.agg { toList := [Value.int .u64 lo, Value.int .u64 0] })), Ob.le 11 (List.length C), Ob.eq (.ex (List.getD C 139 undef)) (.ex (.int .i64 (↑f : Int))), Ob.le 140 (List.length C), Ob.eq (.ex (.int .u64 (IntKind.wrap .u64 (↑f : Int)))) (.ex (.int .u64 (↑f : Int))), Ob.call (fun g => List.lookup g [(0, 1), (3, 2)]) 91 [.ex (.agg { toList := [Value.int .u64 lo, Value.int .u64 0] }), .ex (.agg { toList := [Value.int .u64 (↑f : Int), Value.int .u64 0] })] [] { val := .ex (.agg #[Value.int .u64 (lo + (↑f : Int)), Value.int .u64 0]) }, Ob.le 11 (List.length C), Ob.le 2 2, Ob.le 2 2, Ob.one [Value.int .u64 (lo + (↑f : Int)), Value.int .u64 0]]) (by kernel_rfl) (by kernel_rfl) ⟨(by simp only [Ob.holds, c0]), (by (simp only [Ob.holds]; omega)), (by simp only [Ob.holds, f0]), (by (simp only [Ob.holds]; omega)), (by simp only [Ob.holds, w1]), ((cp ).gl), (by (simp only [Ob.holds]; omega)), (Ob.holds_of_dec (by kernel_rfl)), (Ob.holds_of_dec (by kernel_rfl)), (by rfl), trivial⟩ ?_
  rewrite [hC0, hC_pcount]
  have l1 := hC_len size h (lo + f) W f hW
  have o1 := hC_one size h (lo + f) W f
  have n1 := hC_num size h (lo + f) W f
  have c1 := hC_count size h (lo + f) W f
  have w2 := hC_wait size h (lo + f) W f hW
  obtain ⟨C1, hC1⟩ : ∃ C, C = hC size h (lo + f) W f := ⟨_, rfl⟩
  rw [← hC1] at l1 o1 n1 c1 w2 ⊢
  have cc := compress_any h W hW (lo + f) 0 last rcs hr
  have hWl : (Value.cells (Value.agg { toList := List.map (Value.int .u8) W })).toList.length = 128 := by show (List.map (Value.int .u8) W).length = 128; rw [List.length_map, hW]
  obtain ⟨E, hE⟩ : ∃ E, E = kcmp h W (lo + f) 0 last := ⟨_, rfl⟩
  rw [← hE] at cc ⊢
  refine AG.rk 1 [0, 1] [0, 1, 2] 3 (todo' := [.code (sub (codeOf Tryd.f75) [1, 0]), .code (sub (codeOf Tryd.f75) [1, 1])]) (st' := ⟨mkT 42 [(0, .p 0 0), (1, .ex (.bool last))], [(0, .own C1), (1, .view [Value.int .u64 7640891576956012808, Value.int .u64 13503953896175478587, Value.int .u64 4354685564936845355, Value.int .u64 11912009170470909681, Value.int .u64 5840696475078001361, Value.int .u64 11170449401992604703, Value.int .u64 2270897969802886507, Value.int .u64 6620516959819538809]), (2, .view rcs)], 3⟩) (by kernel_rfl) (by kernel_rfl) ?_
  refine AG.gk [17] [(4, { val := .ex (.agg { toList := ar64 8 h }) }), (8, { val := .ex (.agg { toList := List.map (Value.int .u8) W }) }), (12, { val := .ex (.agg { toList := [Value.int .u64 (lo + (↑f : Int)), Value.int .u64 0] }) }), (14, useR [(0, 1, 0), (1, 2, 0)] 59 ({ val := .ex (.agg (List.toArray (ar64 8 E))) }))] [0] [0, 1, 2] 3 (st' := ⟨mkT 42 [(0, .p 0 0)], [(0, .own (putAt C1 1 (Value.cells (Value.agg { toList := ar64 8 E })).toList)), (1, .view [Value.int .u64 7640891576956012808, Value.int .u64 13503953896175478587, Value.int .u64 4354685564936845355, Value.int .u64 11912009170470909681, Value.int .u64 5840696475078001361, Value.int .u64 11170449401992604703, Value.int .u64 2270897969802886507, Value.int .u64 6620516959819538809]), (2, .view rcs)], 3⟩) (obs := [Ob.eq (.ex (.agg { toList := List.take 8 (List.drop 1 C1) })) (.ex (.agg { toList := ar64 8 h })), Ob.le 9 (List.length C1), Ob.eq (.ex (.agg { toList := List.take 128 (List.drop 11 C1) })) (.ex (.agg { toList := List.map (Value.int .u8) W })), Ob.le 139 (List.length C1), Ob.eq (.ex (.agg { toList := List.take 2 (List.drop 9 C1) })) (.ex (.agg { toList := [Value.int .u64 (lo + (↑f : Int)), Value.int .u64 0] })), Ob.le 11 (List.length C1), Ob.call (fun g => List.lookup g [(0, 1), (3, 2)]) 92 [.ex (.agg { toList := ar64 8 h }), .ex (.agg { toList := List.map (Value.int .u8) W }), .ex (.agg { toList := [Value.int .u64 (lo + (↑f : Int)), Value.int .u64 0] }), .ex (.bool last)] [(1, .view [Value.int .u64 7640891576956012808, Value.int .u64 13503953896175478587, Value.int .u64 4354685564936845355, Value.int .u64 11912009170470909681, Value.int .u64 5840696475078001361, Value.int .u64 11170449401992604703, Value.int .u64 2270897969802886507, Value.int .u64 6620516959819538809]), (2, .view rcs)] (useR [(0, 1, 0), (1, 2, 0)] 59 { val := .ex (.agg (List.toArray (ar64 8 E))) }), Ob.le 9 (List.length C1), Ob.le 8 8, Ob.le 8 8, Ob.one (ar64 8 E)]) (by kernel_rfl) (by kernel_rfl) ⟨(by simp only [Ob.holds, n1]), (by (simp only [Ob.holds]; omega)), (by simp only [Ob.holds, w2]), (by (simp only [Ob.holds]; omega)), (by simp only [Ob.holds, c1]), (by (simp only [Ob.holds]; omega)), (CallOK.at [(0, 1, 0), (1, 2, 0)] 59 (cc ) (.cons (.ex _) (.cons (.ex _) (.cons (.ex _) (.cons (.ex _) .nil)))) (.cons rfl rfl ⟨_, rfl, (by exact cov_all _)⟩ (.cons rfl rfl ⟨_, rfl, (by exact cov_all _)⟩ .nil)) (by kernel_rfl)), (by (simp only [Ob.holds]; omega)), (Ob.holds_of_dec (by kernel_rfl)), (Ob.holds_of_dec (by kernel_rfl)), (by rfl), trivial⟩ ?_
  rewrite [hC1, hC_pnum]
  have l2 := hC_len size E (lo + f) W f hW
  have o2 := hC_one size E (lo + f) W f
  obtain ⟨C2, hC2⟩ : ∃ C, C = hC size E (lo + f) W f := ⟨_, rfl⟩
  rw [← hC2] at l2 o2 ⊢
  have pw : putAt C2 11 (Value.agg { toList := List.replicate 128 (Value.int .u8 0) }).cells.toList = hC size E (lo + f) (List.replicate 128 0) f := by rw [hC2]; exact hC_pwait _ _ _ _ _ hW
  have l3 : (putAt C2 11 (Value.agg { toList := List.replicate 128 (Value.int .u8 0) }).cells.toList).length = 140 := by rw [pw]; exact hC_len _ _ _ _ _ (by simp)
  refine AG.gk [5, 8] [] [] [0, 1, 2] 3 (st' := ⟨mkT 42 [], [(0, .own (putAt (putAt C2 11 (Value.cells (Value.agg { toList := List.replicate 128 (Value.int .u8 0) })).toList) 139 (Value.cells (Value.int .i64 0)).toList)), (1, .view [Value.int .u64 7640891576956012808, Value.int .u64 13503953896175478587, Value.int .u64 4354685564936845355, Value.int .u64 11912009170470909681, Value.int .u64 5840696475078001361, Value.int .u64 11170449401992604703, Value.int .u64 2270897969802886507, Value.int .u64 6620516959819538809]), (2, .view rcs)], 3⟩) (obs := [Ob.le 139 (List.length C2), Ob.le 128 128, Ob.le 128 128, Ob.one (List.replicate 128 (Value.int .u8 0)), Ob.le 140 (List.length (putAt C2 11 (Value.cells (Value.agg { toList := List.replicate 128 (Value.int .u8 0) })).toList)), Ob.le 1 1, Ob.le 1 1, Ob.one [Value.int .i64 0]]) (by kernel_rfl) (by kernel_rfl) ⟨(by (simp only [Ob.holds]; omega)), (Ob.holds_of_dec (by kernel_rfl)), (Ob.holds_of_dec (by kernel_rfl)), (Ob.holds_of_dec (by kernel_rfl)), (by first | (simp only [Ob.holds]; omega) | (simp [Ob.holds]; done) | (simp [Ob.holds]; omega) | ((repeat (first | (with_reducible assumption) | exact one_map _ _ | exact one_arr _ _ _ | exact one_rep _ _ _ | exact u8_map _ | exact u8_arr _ _ | (refine one_take ?_ _) | (refine one_drop ?_ _) | (refine one_app ?_ ?_) | (refine u8_take ?_ _) | (refine u8_drop ?_ _) | (refine u8_app ?_ ?_) | rfl)); done) | (exact Ob.holds_of_dec (by kernel_rfl))), (Ob.holds_of_dec (by kernel_rfl)), (Ob.holds_of_dec (by kernel_rfl)), (Ob.holds_of_dec (by kernel_rfl)), trivial⟩ ?_
  rewrite [pw, hC_pfill _ _ _ _ _ _ (by simp)]
  refine AG.fin ([]) Go.Proofs.Tryd.f75 fn75 (.inl rfl) (obs := []) (by kernel_rfl) trivial (by kernel_rfl) ⟨(by kernel_rfl), trivial⟩ (by kernel_rfl)
end Go.Proofs.YtfdkdbbigpphcaaDoor.Ab
