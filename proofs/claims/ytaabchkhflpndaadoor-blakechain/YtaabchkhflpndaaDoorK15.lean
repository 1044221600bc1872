/- Own: rows padded to blocks, and the first numbers and blocks as the laws of layer 6 have them (no statement is proved here). -/
import Derived.Test.YtaabchkhflpndaaDoorK12
import Derived.KernelRfl
namespace Go.Proofs.YtaabchkhflpndaaDoor.Ab
open Go.Proofs
set_option linter.unusedSimpArgs false
set_option linter.unusedVariables false
-- AGLIM=12
set_option maxRecDepth 4000
theorem fn30 : Tryd.prog.funcs[30]? = some Tryd.f30 := by kernel_rfl
theorem fn17 : Tryd.prog.funcs[17]? = some Tryd.f17 := by kernel_rfl
theorem fn18 : Tryd.prog.funcs[18]? = some Tryd.f18 := by kernel_rfl
theorem fn19 : Tryd.prog.funcs[19]? = some Tryd.f19 := by kernel_rfl
theorem rounded128_ok (n : Nat) (h1 : 0 < n) (hn : n ≤ 128) : CallOK Tryd.prog (fun _ => none) 30 [.ex (.int .i64 (n : Int)), .ex (.int .i64 128)] [] { val := .ex (.int .i64 128) } := by
  have e1 : (n : Int).tmod 128 = ((n % 128 : Nat) : Int) := by rw [Int.tmod_eq_emod_of_nonneg (by omega)]; omega
  have e2 : IntKind.i64.wrap (128 - ((n % 128 : Nat) : Int)) = ((128 - n % 128 : Nat) : Int) := by rw [wrap64_id _ (by omega) (by omega)]; omega
  have e3 : ((128 - n % 128 : Nat) : Int).tmod 128 = (((128 - n % 128) % 128 : Nat) : Int) := by rw [Int.tmod_eq_emod_of_nonneg (by omega)]; omega
  have e4 : IntKind.i64.wrap ((n : Int) + (((128 - n % 128) % 128 : Nat) : Int)) = 128 := by rw [wrap64_id _ (by omega) (by omega)]; omega
  refine CallOK.from0 hmix Tryd.f30 0 fn30 (by kernel_rfl) (by kernel_rfl) (fun w ρ h1 h2 => ?_)
  refine AG.rs 9 [([], []), ([], []), ([], [(4, { val := .ex (.int .i64 (↑(n % 128) : Int)) }), (5, { val := .ex (.int .i64 (↑(128 - n % 128) : Int)) }), (7, { val := .ex (.int .i64 (↑((128 - n % 128) % 128) : Int)) }), (8, { val := .ex (.int .i64 128) })])] [4] [] 0 (todo' := [.code (sub (codeOf Tryd.f30) [1, 0, 1, 0, 1])]) (st' := ⟨mkT 17 [(4, .ex (.int .i64 128))], [], 0⟩) (obs := [Ob.eq (.ex (.int .i64 (Int.tmod (↑n : Int) 128))) (.ex (.int .i64 (↑(n % 128) : Int))), Ob.le 1 128, Ob.eq (.ex (.int .i64 (IntKind.wrap .i64 (128 - (↑(n % 128) : Int))))) (.ex (.int .i64 (↑(128 - n % 128) : Int))), Ob.eq (.ex (.int .i64 (Int.tmod (↑(128 - n % 128) : Int) 128))) (.ex (.int .i64 (↑((128 - n % 128) % 128) : Int))), Ob.le 1 128, Ob.eq (.ex (.int .i64 (IntKind.wrap .i64 ((↑n : Int) + (↑((128 - n % 128) % 128) : Int))))) (.ex (.int .i64 128))]) (by kernel_rfl) (by kernel_rfl) ⟨(by simp only [Ob.holds, e1]), (Ob.holds_of_dec (by kernel_rfl)), (by simp only [Ob.holds, e2]), (by simp only [Ob.holds, e3]), (Ob.holds_of_dec (by kernel_rfl)), (by simp only [Ob.holds, e4]), trivial⟩ ?_
  refine AG.fin ([.ex (.int .i64 128)]) Go.Proofs.Tryd.f30 fn30 (.inr ⟨_, rfl⟩) (obs := []) (by kernel_rfl) trivial (by kernel_rfl) trivial (by kernel_rfl)
theorem padded128_ok (key : List Int) (h1 : 0 < key.length) (hl : key.length ≤ 128) : CallOK Tryd.prog (fun _ => none) 17 [.sv 0 0 key.length, .ex (.int .i64 128)] [(0, .view (key.map (Value.int .u8)))] { val := .s 1 0 128 128, upd := [(1, .own ((key ++ List.replicate (128 - key.length) 0).map (Value.int .u8)))], nks := [1] } := by
  have c1 := rounded128_ok key.length h1 hl
  have eK : List.take key.length (List.drop 0 (List.map (Value.int .u8) key)) = key.map (Value.int .u8) := by rw [List.drop_zero]; exact List.take_of_length_le (by simp)
  have eM : List.take (min (key.map (Value.int .u8)).length 128) (key.map (Value.int .u8)) = key.map (Value.int .u8) := List.take_of_length_le (by simp; omega)
  have eO : ovr (List.replicate 128 (Value.int .u8 0)) 0 (key.map (Value.int .u8)) = (key ++ List.replicate (128 - key.length) 0).map (Value.int .u8) := by
    unfold ovr
    rw [List.take_zero, List.nil_append, Nat.zero_add, List.length_map, List.drop_replicate, List.map_append, List.map_replicate]
  refine CallOK.from0 hmix Tryd.f17 1 fn17 (by kernel_rfl) (by kernel_rfl) (fun w ρ h1 h2 => ?_)
  refine AG.rs 8 [([], []), ([], [(3, { val := .ex (.int .i64 128) })]), ([2], []), ([], [])] [4] [0, 21] 22 (todo' := [.code (sub (codeOf Tryd.f17) [1, 1, 1, 1])]) (st' := ⟨mkT 15 [(4, .s 21 0 128 128)], [(0, .view (List.map (Value.int .u8) key)), (21, .own (ovr (List.replicate 128 (Value.int .u8 0)) 0 (List.take (min (List.length (List.take (List.length key) (List.drop 0 (List.map (Value.int .u8) key)))) 128) (List.take (List.length key) (List.drop 0 (List.map (Value.int .u8) key))))))], 22⟩) (obs := [Ob.call (fun g => List.lookup g []) 30 [.ex (.int .i64 (↑(List.length key) : Int)), .ex (.int .i64 128)] [] { val := .ex (.int .i64 128) }, Ob.le 128 128, Ob.one (List.take (List.length key) (List.drop 0 (List.map (Value.int .u8) key))), Ob.le (0 + List.length key) (List.length (List.map (Value.int .u8) key))]) (by kernel_rfl) (by kernel_rfl) ⟨((c1 ).gl), (Ob.holds_of_dec (by kernel_rfl)), (by exact one_take (one_map _ _) _), (by (simp [Ob.holds]; done)), trivial⟩ ?_
  refine AG.ren 21 1 (st' := ⟨mkT 15 [(4, .s 1 0 128 128)], [(0, .view (List.map (Value.int .u8) key)), (1, .own (ovr (List.replicate 128 (Value.int .u8 0)) 0 (List.take (min (List.length (List.take (List.length key) (List.drop 0 (List.map (Value.int .u8) key)))) 128) (List.take (List.length key) (List.drop 0 (List.map (Value.int .u8) key))))))], 22⟩) (by kernel_rfl) (by kernel_rfl) ?_
  refine AG.fin ([.s 1 0 128 128]) Go.Proofs.Tryd.f17 fn17 (.inr ⟨_, rfl⟩) (obs := []) (by kernel_rfl) trivial (by kernel_rfl) ⟨?_, trivial⟩ (by kernel_rfl)
  refine congrArg (fun z => some (Blk.own z)) (?_ : (_ : List Value) = _)
  rw [eK]
  exact (congrArg (ovr (List.replicate 128 (Value.int .u8 0)) 0) eM).trans eO
theorem lfirst_ok (size : Int) (hs : 1 ≤ size ∧ size ≤ 64) (n : Nat) (hn : n ≤ 64) : CallOK Tryd.prog (fun _ => none) 18 [.ex (.int .i64 size), .ex (.int .i64 (n : Int))] [] { val := .ex (.agg (ar64 8 (kh0 size n)).toArray) } := by
  have w1 : IntKind.u64.wrap (n : Int) = (n : Int) := by rw [wrap_u64]; omega
  have w2 : IntKind.u64.wrap size = size := by rw [wrap_u64]; omega
  have w3 : IntKind.u64.wrap ((n : Int) * 256) = ((256 * n : Nat) : Int) := by rw [wrap_u64]; omega
  refine CallOK.from0 hmix Tryd.f18 0 fn18 (by kernel_rfl) (by kernel_rfl) (fun w ρ h1 h2 => ?_)
  refine AG.rs 8 [([], []), ([], []), ([], [(3, { val := .ex (.int .u64 (↑n : Int)) }), (4, { val := .ex (.int .u64 (↑(256 * n) : Int)) }), (7, { val := .ex (.int .u64 size) })]), ([], [])] [4] [0] 1 (todo' := [.code (sub (codeOf Tryd.f18) [1, 1, 1, 1])]) (st' := ⟨mkT 19 [(4, .p 0 0)], [(0, .own [Value.int .u64 (kxor 7640891576956012808 (kxor (kxor 16842752 (↑(256 * n) : Int)) size)), Value.int .u64 13503953896175478587, Value.int .u64 4354685564936845355, Value.int .u64 11912009170470909681, Value.int .u64 5840696475078001361, Value.int .u64 11170449401992604703, Value.int .u64 2270897969802886507, Value.int .u64 6620516959819538809])], 1⟩) (obs := [Ob.eq (.ex (.int .u64 (IntKind.wrap .u64 (↑n : Int)))) (.ex (.int .u64 (↑n : Int))), Ob.eq (.ex (.int .u64 (IntKind.wrap .u64 ((↑n : Int) * 256)))) (.ex (.int .u64 (↑(256 * n) : Int))), Ob.eq (.ex (.int .u64 (IntKind.wrap .u64 size))) (.ex (.int .u64 size))]) (by kernel_rfl) (by kernel_rfl) ⟨(by simp only [Ob.holds, w1]), (by simp only [Ob.holds, w3]), (by simp only [Ob.holds, w2]), trivial⟩ ?_
  refine AG.fin ([.ex (.agg { toList := [Value.int .u64 (kxor 7640891576956012808 (kxor (kxor 16842752 (↑(256 * n) : Int)) size)), Value.int .u64 13503953896175478587, Value.int .u64 4354685564936845355, Value.int .u64 11912009170470909681, Value.int .u64 5840696475078001361, Value.int .u64 11170449401992604703, Value.int .u64 2270897969802886507, Value.int .u64 6620516959819538809] })]) Go.Proofs.Tryd.f18 fn18 (.inr ⟨_, rfl⟩) (obs := [Ob.le 8 8]) (by kernel_rfl) ⟨(Ob.holds_of_dec (by kernel_rfl)), trivial⟩ (by kernel_rfl) trivial (by kernel_rfl)
theorem blk_ar (b : List Int) (hl : b.length ≤ 128) : ar8 128 (fun j => if j < b.length then bAt b (j : Int) else 0) = (b ++ List.replicate (128 - b.length) 0).map (Value.int .u8) := by
  symm
  refine eq_ar8 (by simp; omega) fun j hj => ?_
  rw [List.getElem?_map]
  by_cases h1 : j < b.length
  · rw [List.getElem?_append_left h1, List.getElem?_eq_getElem h1, if_pos h1, bAt_in b _ (by omega) (by omega)]
    simp [List.getElem?_eq_getElem h1]
  · rw [List.getElem?_append_right (by omega), List.getElem?_replicate, if_pos (by omega), if_neg h1]; rfl
theorem lblock_ok (b : List Int) (hl : b.length ≤ 128) : CallOK Tryd.prog (fun _ => none) 19 [.sv 0 0 b.length] [(0, .view (b.map (Value.int .u8)))] { val := .ex (.agg ((b ++ List.replicate (128 - b.length) 0).map (Value.int .u8)).toArray) } := by
  refine CallOK.from0 hmix Tryd.f19 1 fn19 (by kernel_rfl) (by kernel_rfl) (fun w ρ h1 h2 => ?_)
  refine AG.rk 8 [0, 2, 3, 4] [0, 1, 5] 6 (todo' := [.code (sub (codeOf Tryd.f19) [1, 1, 0, 1, 0]), .inBlock 0, .code (sub (codeOf Tryd.f19) [1, 1, 1])]) (st' := ⟨mkT 22 [(0, .sv 0 0 (List.length b)), (2, .p 1 0), (3, .p 5 0), (4, .ex (.int .i64 0))], [(0, .view (List.map (Value.int .u8) b)), (1, .own (List.replicate 128 (Value.int .u8 0))), (5, .own (List.replicate 128 (Value.int .u8 0)))], 6⟩) (by kernel_rfl) (by kernel_rfl) ?_
  refine AG.rk 1 [0, 2, 3, 4] [0, 1, 5] 6 (todo' := [.code (sub (codeOf Tryd.f19) [1, 1, 0, 1, 0, 0]), .inLoop (sub (codeOf Tryd.f19) [1, 1, 0, 1, 0, 0]), .inBlock 0, .code (sub (codeOf Tryd.f19) [1, 1, 1])]) (st' := ⟨mkT 22 [(0, .sv 0 0 (List.length b)), (2, .p 1 0), (3, .p 5 0), (4, .ex (.int .i64 0))], [(0, .view (List.map (Value.int .u8) b)), (1, .own (List.replicate 128 (Value.int .u8 0))), (5, .own (List.replicate 128 (Value.int .u8 0)))], 6⟩) (by kernel_rfl) (by kernel_rfl) ?_
  refine AG.indE (α := {i : Nat // i ≤ b.length}) (fun i => b.length - i.1)
    (fun i => ⟨mkT 22 [(0, .sv 0 0 b.length), (2, .p 1 0), (3, .p 5 0), (4, .ex (.int .i64 (i.1 : Int)))], [(0, .view (b.map (Value.int .u8))), (1, .own (List.replicate 128 (Value.int .u8 0))), (5, .own (ar8 128 (fun j => if j < i.1 then bAt b (j : Int) else 0)))], 6⟩) ⟨0, by omega⟩ (by kernel_rfl) ?_
  rintro ⟨i, hi⟩ ih
  simp only at hi ih ⊢
  by_cases h : i < b.length
  · have g1 : decide ((i : Int) < (b.length : Int)) = true := by simp; omega
    have g2 : decide ((i : Int) < 128) = true := by simp; omega
    have w1 : IntKind.i64.wrap ((i : Int) + 1) = ((i + 1 : Nat) : Int) := by rw [wrap64_id _ (by omega) (by omega)]; omega
    have ih1 := ih ⟨i + 1, h⟩ (by simp only; omega)
    simp only at ih1
    have ef : ar8 128 (upd (fun j => if j < i then bAt b (j : Int) else 0) i (bAt b (i : Int))) = ar8 128 (fun j => if j < i + 1 then bAt b (j : Int) else 0) := ar8_congr fun j hj => by
      unfold upd
      by_cases hji : j = i
      · subst hji; rw [if_pos rfl, if_pos (by omega)]
      · rw [if_neg hji]
        show (if j < i then bAt b (j : Int) else 0) = _
        by_cases hlt : j < i
        · rw [if_pos hlt, if_pos (by omega)]
        · rw [if_neg hlt, if_neg (by omega)]
    have hbl : (List.map (Value.int .u8) b).length = b.length := List.length_map _
    have hgd : (List.map (Value.int .u8) b).getD (0 + (i : Int).toNat * 1) undef = Value.int .u8 (bAt b (i : Int)) := by
      rw [Int.toNat_natCast, Nat.mul_one, Nat.zero_add, bAt_in b _ (by omega) (by omega), Int.toNat_natCast, List.getD_eq_getElem?_getD, List.getD_eq_getElem?_getD, List.getElem?_map, List.getElem?_eq_getElem h]
      rfl
    have hpt := put_ar8 128 (fun j => if j < i then bAt b (j : Int) else 0) (i : Int) (by omega) (by omega) (bAt b (i : Int))
    rw [Int.toNat_natCast] at hpt
    rw [ef] at hpt
    have hC : (ar8 128 (fun j => if j < i then bAt b (j : Int) else 0)).length = 128 := length_ar8 _ _
    generalize ar8 128 (fun j => if j < i then bAt b (j : Int) else 0) = C at *
    generalize ar8 128 (fun j => if j < i + 1 then bAt b (j : Int) else 0) = C2 at *
    clear ef
    refine AG.rs 11 [([], [(3, { val := .ex (.bool true) }), (6, { val := .ex (.bool true) })]), ([3, 5, 6], [(4, { val := .ex (.int .u8 (bAt b (↑i : Int))) })]), ([], [(1, { val := .ex (.int .i64 (↑(i + 1) : Int)) })])] [0, 2, 3, 4] [0, 1, 5] 6 (todo' := [.code (sub (codeOf Tryd.f19) [1, 1, 0, 1, 0, 0]), .inLoop (sub (codeOf Tryd.f19) [1, 1, 0, 1, 0, 0]), .inBlock 0, .code (sub (codeOf Tryd.f19) [1, 1, 1])]) (st' := ⟨mkT 22 [(0, .sv 0 0 (List.length b)), (2, .p 1 0), (3, .p 5 0), (4, .ex (.int .i64 (↑(i + 1) : Int)))], [(0, .view (List.map (Value.int .u8) b)), (1, .own (List.replicate 128 (Value.int .u8 0))), (5, .own (putAt C (0 + Int.toNat (↑i : Int) * 1) (Value.cells (Value.int .u8 (bAt b (↑i : Int)))).toList))], 6⟩) (obs := [Ob.eq (.ex (.bool (decide ((↑i : Int) < (↑(List.length b) : Int))))) (.ex (.bool true)), Ob.eq (.ex (.bool (decide ((↑i : Int) < 128)))) (.ex (.bool true)), Ob.ix (↑i : Int) (List.length b), Ob.eq (.ex (List.getD (List.map (Value.int .u8) b) (0 + Int.toNat (↑i : Int) * 1) undef)) (.ex (.int .u8 (bAt b (↑i : Int)))), Ob.le (0 + Int.toNat (↑i : Int) * 1 + 1) (List.length (List.map (Value.int .u8) b)), Ob.ix (↑i : Int) 128, Ob.le (0 + Int.toNat (↑i : Int) * 1 + 1) (List.length C), Ob.le 1 1, Ob.le 1 1, Ob.one [Value.int .u8 (bAt b (↑i : Int))], Ob.eq (.ex (.int .i64 (IntKind.wrap .i64 ((↑i : Int) + 1)))) (.ex (.int .i64 (↑(i + 1) : Int)))]) (by kernel_rfl) (by kernel_rfl) ⟨(by simp only [Ob.holds, g1]), (by simp only [Ob.holds, g2]), (by (simp only [Ob.holds]; omega)), (by simp only [Ob.holds, hgd]), (by (simp only [Ob.holds]; omega)), (by (simp only [Ob.holds]; omega)), (by (simp only [Ob.holds]; omega)), (Ob.holds_of_dec (by kernel_rfl)), (Ob.holds_of_dec (by kernel_rfl)), (by rfl), (by simp only [Ob.holds, w1]), trivial⟩ ?_
    rewrite [Int.toNat_natCast, hpt]
    exact AG.conv (by kernel_rfl) ih1
  · have hib : i = b.length := by omega
    have g1 : decide ((i : Int) < (b.length : Int)) = false := by simp; omega
    subst hib
    clear ih
    have hC : (ar8 128 (fun j => if j < b.length then bAt b (j : Int) else 0)).length = 128 := length_ar8 _ _
    have hO : (ar8 128 (fun j => if j < b.length then bAt b (j : Int) else 0)).all (·.oneCell') = true := one_arr _ _ _
    rw [← blk_ar b hl]
    generalize ar8 128 (fun j => if j < b.length then bAt b (j : Int) else 0) = C at *
    have hT : List.take 128 (List.drop 0 C) = C := by rw [List.drop_zero]; exact List.take_of_length_le (by omega)
    have hP : putAt (List.replicate 128 (Value.int IntKind.u8 0)) 0 (Value.agg { toList := C }).cells.toList = C := by
      show putAt _ 0 C = C
      rw [putAt_eq _ _ _ (by rw [List.length_replicate]; omega), List.take_zero, List.nil_append, List.drop_of_length_le (by rw [List.length_replicate]; omega), List.append_nil]
    have hPl : (putAt (List.replicate 128 (Value.int IntKind.u8 0)) 0 (Value.agg { toList := C }).cells.toList).length = 128 := by rw [hP]; exact hC
    refine AG.rs 7 [([], [(3, { val := .ex (.bool false) })]), ([1], [(0, { val := .ex (.agg { toList := C }) })])] [2] [0, 1] 2 (todo' := [.code (sub (codeOf Tryd.f19) [1, 1, 1, 1])]) (st' := ⟨mkT 22 [(2, .p 1 0)], [(0, .view (List.map (Value.int .u8) b)), (1, .own (putAt (List.replicate 128 (Value.int .u8 0)) 0 (Value.cells (Value.agg { toList := C })).toList))], 2⟩) (obs := [Ob.eq (.ex (.bool (decide ((↑(List.length b) : Int) < (↑(List.length b) : Int))))) (.ex (.bool false)), Ob.eq (.ex (.agg { toList := List.take 128 (List.drop 0 C) })) (.ex (.agg { toList := C })), Ob.le 128 (List.length C), Ob.le 128 128, Ob.le (List.length (Value.cells (Value.agg { toList := C })).toList) 128, Ob.le 128 (List.length (Value.cells (Value.agg { toList := C })).toList), Ob.one (Value.cells (Value.agg { toList := C })).toList]) (by kernel_rfl) (by kernel_rfl) ⟨(by simp only [Ob.holds, g1]), (by simp only [Ob.holds, hT]), (by (simp only [Ob.holds]; omega)), (Ob.holds_of_dec (by kernel_rfl)), (by first | (simp only [Ob.holds]; omega) | (simp [Ob.holds]; done) | (simp [Ob.holds]; omega) | ((repeat (first | (with_reducible assumption) | exact one_map _ _ | exact one_arr _ _ _ | exact one_rep _ _ _ | exact u8_map _ | exact u8_arr _ _ | (refine one_take ?_ _) | (refine one_drop ?_ _) | (refine one_app ?_ ?_) | (refine u8_take ?_ _) | (refine u8_drop ?_ _) | (refine u8_app ?_ ?_) | rfl)); done) | (exact Ob.holds_of_dec (by kernel_rfl))), (by first | (simp only [Ob.holds]; omega) | (simp [Ob.holds]; done) | (simp [Ob.holds]; omega) | ((repeat (first | (with_reducible assumption) | exact one_map _ _ | exact one_arr _ _ _ | exact one_rep _ _ _ | exact u8_map _ | exact u8_arr _ _ | (refine one_take ?_ _) | (refine one_drop ?_ _) | (refine one_app ?_ ?_) | (refine u8_take ?_ _) | (refine u8_drop ?_ _) | (refine u8_app ?_ ?_) | rfl)); done) | (exact Ob.holds_of_dec (by kernel_rfl))), (by first | (simp only [Ob.holds]; omega) | (simp [Ob.holds]; done) | (simp [Ob.holds]; omega) | ((repeat (first | (with_reducible assumption) | exact one_map _ _ | exact one_arr _ _ _ | exact one_rep _ _ _ | exact u8_map _ | exact u8_arr _ _ | (refine one_take ?_ _) | (refine one_drop ?_ _) | (refine one_app ?_ ?_) | (refine u8_take ?_ _) | (refine u8_drop ?_ _) | (refine u8_app ?_ ?_) | rfl)); done) | (exact Ob.holds_of_dec (by kernel_rfl))), trivial⟩ ?_
    refine AG.fin ([.ex (.agg { toList := List.take 128 (List.drop 0 (putAt (List.replicate 128 (Value.int .u8 0)) 0 (Value.cells (Value.agg { toList := C })).toList)) })]) Go.Proofs.Tryd.f19 fn19 (.inr ⟨_, rfl⟩) (obs := [Ob.le 128 (List.length (putAt (List.replicate 128 (Value.int .u8 0)) 0 (Value.cells (Value.agg { toList := C })).toList))]) (by kernel_rfl) ⟨(by first | (simp only [Ob.holds]; omega) | (simp [Ob.holds]; done) | (simp [Ob.holds]; omega) | ((repeat (first | (with_reducible assumption) | exact one_map _ _ | exact one_arr _ _ _ | exact one_rep _ _ _ | exact u8_map _ | exact u8_arr _ _ | (refine one_take ?_ _) | (refine one_drop ?_ _) | (refine one_app ?_ ?_) | (refine u8_take ?_ _) | (refine u8_drop ?_ _) | (refine u8_app ?_ ?_) | rfl)); done)), trivial⟩ ?_ trivial (by kernel_rfl)
    rw [hP, hT]
    rfl
end Go.Proofs.YtaabchkhflpndaaDoor.Ab
