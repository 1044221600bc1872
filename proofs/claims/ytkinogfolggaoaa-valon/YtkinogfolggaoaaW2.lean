/- Own: the law ValOn followed (no statement is proved here). -/
import Derived.Test.YtkinogfolggaoaaV4
import Derived.Test.YtkinogfolggaoaaW0
import Derived.KernelRfl
namespace Go.Proofs.Ytkinogfolggaoaa.Ab
open Go.Proofs
set_option linter.unusedSimpArgs false
set_option linter.unusedVariables false
-- AGLIM=12
theorem fn3 : Try.prog.funcs[3]? = some Try.f3 := by kernel_rfl
theorem fn8 : Try.prog.funcs[8]? = some Try.f8 := by kernel_rfl
/-- The example's element. -/
def exH : E := el (arf [0x25, 0x62, 0x93, 0x47, 0x58, 0x92, 0x42, 0x76, 0x1d, 0x31, 0xf8, 0x26, 0xba, 0x4b, 0x75, 0x7b])
theorem awake11_ok : CallOK Try.prog (fun _ => none) 8 [] [] { val := .ex (.bool true) } := by
  have c1 := vsum_e exH [1] all8_one (by decide)
  have c2 := encode_ok [] [7] (by decide) (by decide)
  refine CallOK.from0 hmix Try.f8 0 fn8 (by kernel_rfl) (by kernel_rfl) (fun w ρ h1 h2 => ?_)
  refine AG.rs 8 [([], []), ([], []), ([], [(1, useR [(1, 16, 0)] 20 ({ val := .o 2 0 (List.length (encL [] [7])), upd := [(2, .row (List.map (Value.int .u8) (encL [] [7])))], nks := [2] }))]), ([], [(2, useR [(0, 32, 0)] 36 ({ val := .ex (.agg (List.toArray (ar8 16 (byt (valV exH [1]))))) }))])] [0] [] 0 (todo' := [.code (sub (codeOf Try.f8) [1, 1, 1, 1])]) (st' := ⟨mkT 40 [(0, .ex (.bool true))], [], 0⟩) (obs := [Ob.call (fun g => List.lookup g []) 11 [.ex (.slice none 0 0), .s 16 0 1 1] [(16, .own [Value.int .u8 7])] (useR [(1, 16, 0)] 20 { val := .o 2 0 (List.length (encL [] [7])), upd := [(2, .row (List.map (Value.int .u8) (encL [] [7])))], nks := [2] }), Ob.call (fun g => List.lookup g []) 7 [.ex (.agg { toList := [Value.int .u8 37, Value.int .u8 98, Value.int .u8 147, Value.int .u8 71, Value.int .u8 88, Value.int .u8 146, Value.int .u8 66, Value.int .u8 118, Value.int .u8 29, Value.int .u8 49, Value.int .u8 248, Value.int .u8 38, Value.int .u8 186, Value.int .u8 75, Value.int .u8 117, Value.int .u8 123] }), .s 32 0 1 1] [(32, .own [Value.int .u8 1])] (useR [(0, 32, 0)] 36 { val := .ex (.agg (List.toArray (ar8 16 (byt (valV exH [1]))))) })]) (by kernel_rfl) (by kernel_rfl) ⟨(CallOK.at0 [(1, 16, 0)] 20 (c2 ) (.cons (.vx) (.cons (.vs rfl (by first | omega | (simp; done) | (simp; omega))) .nil)) (.away rfl (.cons rfl rfl ⟨_, rfl, (by exact cov_all _)⟩ .nil)) (by kernel_rfl)), (CallOK.at0 [(0, 32, 0)] 36 (c1 ) (.cons (.ex _) (.cons (.vs rfl (by first | omega | (simp; done) | (simp; omega))) .nil)) (.cons rfl rfl ⟨_, rfl, (by exact cov_all _)⟩ .nil) (by kernel_rfl)), trivial⟩ ?_
  refine AG.fin ([.ex (.bool true)]) Go.Proofs.Try.f8 fn8 (.inr ⟨_, rfl⟩) (obs := []) (by kernel_rfl) trivial (by kernel_rfl) trivial (by kernel_rfl)
theorem wnil_ok (n : Nat) (cs : List Value) : CallOK Try.prog (fun _ => none) 5 [.ex (.pointer none), .sv 0 0 n] [(0, .view cs)] { val := .tup [] } := by
  refine CallOK.from0 hmix Try.f5 1 fn5 (by kernel_rfl) (by kernel_rfl) (fun w ρ h1 h2 => ?_)
  refine AG.rk 5 [] [0] 1 (todo' := [.code (sub (codeOf Try.f5) [0, 0, 1, 0]), .code (sub (codeOf Try.f5) [0, 1]), .inScope (sub (codeOf Try.f5) [0])]) (st' := ⟨mkT 48 [], [(0, .view cs)], 1⟩) (by kernel_rfl) (by kernel_rfl) ?_
  refine AG.fin ([]) Go.Proofs.Try.f5 fn5 (.inr ⟨_, rfl⟩) (obs := []) (by kernel_rfl) trivial (by kernel_rfl) trivial (by kernel_rfl)
theorem vnil_ok : CallOK Try.prog (fun _ => none) 6 [.ex (.pointer none)] [] { val := .ex (.agg (ar8 16 (fun _ => 0)).toArray) } := by
  refine CallOK.from0 hmix Try.f6 0 fn6 (by kernel_rfl) (by kernel_rfl) (fun w ρ h1 h2 => ?_)
  refine AG.rk 8 [2] [0] 1 (todo' := [.code (sub (codeOf Try.f6) [1, 0, 1, 0, 1]), .code (sub (codeOf Try.f6) [1, 1])]) (st' := ⟨mkT 10 [(2, .p 0 0)], [(0, .own (List.replicate 16 (Value.int .u8 0)))], 1⟩) (by kernel_rfl) (by kernel_rfl) ?_
  refine AG.fin ([.ex (.agg { toList := List.replicate 16 (Value.int .u8 0) })]) Go.Proofs.Try.f6 fn6 (.inr ⟨_, rfl⟩) (obs := [Ob.le 16 16]) (by kernel_rfl) ⟨(Ob.holds_of_dec (by kernel_rfl)), trivial⟩ (by kernel_rfl) trivial (by kernel_rfl)
theorem el_congr {a b : Nat → Int} (h : ∀ j, j < 16 → a j = b j) : el a = el b := by
  unfold el
  rw [h 0 (by decide), h 1 (by decide), h 2 (by decide), h 3 (by decide), h 4 (by decide), h 5 (by decide), h 6 (by decide), h 7 (by decide), h 8 (by decide), h 9 (by decide), h 10 (by decide), h 11 (by decide), h 12 (by decide), h 13 (by decide), h 14 (by decide), h 15 (by decide)]
theorem onV_succ (h v : E) (bs : List Int) (q : Nat) : onV h v bs (q + 1) = dot (onV h v bs q ^^^ el (fun j => bAt bs ((16 * q + j : Nat) : Int))) h := by rw [onV]
theorem onV_pref (h v : E) (A B : List Int) (a : Nat) (hA : A.length = 16 * a) : ∀ q, q ≤ a → onV h v (A ++ B) q = onV h v A q
  | 0, _ => by rw [onV, onV]
  | q + 1, hq => by
    have e : el (fun j => bAt (A ++ B) ((16 * q + j : Nat) : Int)) = el (fun j => bAt A ((16 * q + j : Nat) : Int)) := el_congr fun j hj => by
      rw [bAt_in _ _ (by omega) (by rw [List.length_append]; omega), bAt_in _ _ (by omega) (by omega)]
      rw [List.getD_eq_getElem?_getD, List.getD_eq_getElem?_getD, List.getElem?_append_left (by omega)]
    rw [onV_succ, onV_succ, e, onV_pref h v A B a hA q (by omega)]
theorem onV_app (h v : E) (A B : List Int) (a : Nat) (hA : A.length = 16 * a) : ∀ q, onV h v (A ++ B) (a + q) = onV h (onV h v A a) B q
  | 0 => by rw [Nat.add_zero, onV_pref h v A B a hA a (Nat.le_refl _), onV]
  | q + 1 => by
    have e : el (fun j => bAt (A ++ B) ((16 * (a + q) + j : Nat) : Int)) = el (fun j => bAt B ((16 * q + j : Nat) : Int)) := el_congr fun j hj => by
      by_cases hb : 16 * q + j < B.length
      · rw [bAt_in _ _ (by omega) (by rw [List.length_append]; omega), bAt_in _ _ (by omega) (by omega)]
        rw [List.getD_eq_getElem?_getD, List.getD_eq_getElem?_getD, List.getElem?_append_right (by omega)]
        rw [show ((16 * (a + q) + j : Nat) : Int).toNat - A.length = ((16 * q + j : Nat) : Int).toNat by omega]
      · rw [bAt_out _ _ (by rw [List.length_append]; omega), bAt_out _ _ (by omega)]
    rw [← Nat.add_assoc, onV_succ, onV_succ, e, onV_app h v A B a hA q]
theorem bAt_padL (r : List Int) (j : Nat) : bAt (padL r) (j : Int) = bAt r (j : Int) := by
  unfold padL
  by_cases hj : j < up16 r.length
  · rw [bAt_in _ _ (by omega) (by simp; omega), Int.toNat_natCast]
    simp [hj]
  · have : r.length ≤ up16 r.length := by unfold up16; omega
    rw [bAt_out _ _ (by simp; omega), bAt_out r _ (by omega)]
theorem onV_padL (h v : E) (r : List Int) : ∀ q, onV h v (padL r) q = onV h v r q
  | 0 => by rw [onV, onV]
  | q + 1 => by
    have e : el (fun j => bAt (padL r) ((16 * q + j : Nat) : Int)) = el (fun j => bAt r ((16 * q + j : Nat) : Int)) := el_congr fun j hj => bAt_padL r _
    rw [onV_succ, onV_succ, e, onV_padL h v r q]
theorem valV_on (h : E) (A r : List Int) (hA : A.length % 16 = 0) : valV h (A ++ padL r) = onV h (onV h 0#128 A (A.length / 16)) r ((r.length + 15) / 16) := by
  unfold valV
  rw [show ((A ++ padL r).length + 15) / 16 = A.length / 16 + (r.length + 15) / 16 by rw [List.length_append, len_padL]; unfold up16; omega, onV_app h _ A (padL r) (A.length / 16) (by omega), onV_padL]
theorem padL_eq (r : List Int) (m : Nat) (hm : r.length + m = up16 r.length) : r ++ List.replicate m 0 = padL r := by
  unfold padL
  apply List.ext_getElem?
  intro j
  by_cases hj : j < up16 r.length
  · rw [List.getElem?_map, List.getElem?_range hj]
    show _ = some (bAt r (j : Int))
    by_cases h2 : j < r.length
    · rw [List.getElem?_append_left h2, bAt_in r _ (by omega) (by omega), Int.toNat_natCast, List.getD_eq_getElem?_getD, List.getElem?_eq_getElem h2]; rfl
    · rw [List.getElem?_append_right (by omega), List.getElem?_replicate, if_pos (by omega), bAt_out r _ (by omega)]
  · rw [List.getElem?_eq_none (by simp; omega), List.getElem?_eq_none (by simp; omega)]
theorem valon_ok (h : E) (rs : List (List Int)) (h8 : ∀ r ∈ rs, All8 r) (hl : rs.length ≤ 9223372036854775807) : CallOK Try.prog (fun _ => none) 3 [.ex (.agg (ar8 16 (byt h)).toArray), .sv 0 0 rs.length] [(0, .rows (cellsR rs))] { val := .ex (.bool true) } := by
  have hlen := len_cellsR rs
  have hget := get_cellsR rs
  generalize cellsR rs = L at *
  by_cases h20 : rs.length ≤ 20
  case neg =>
    have g0 : decide ((rs.length : Int) > 20) = true := decide_eq_true (by omega)
    generalize byt h = fh
    refine CallOK.from0 hmix Try.f3 1 fn3 (by kernel_rfl) (by kernel_rfl) (fun w ρ h1 h2 => ?_)
    refine AG.rs 8 [([], []), ([], [(2, { val := .ex (.bool true) })]), ([], [])] [4] [0] 1 (todo' := [.code (sub (codeOf Try.f3) [1, 0, 1, 0, 1]), .code (sub (codeOf Try.f3) [1, 1])]) (st' := ⟨mkT 63 [(4, .ex (.bool true))], [(0, .rows L)], 1⟩) (obs := [Ob.eq (.ex (.bool (decide ((↑(List.length rs) : Int) > 20)))) (.ex (.bool true))]) (by kernel_rfl) (by kernel_rfl) ⟨(by simp only [Ob.holds, g0]), trivial⟩ ?_
    refine AG.fin ([.ex (.bool true)]) Go.Proofs.Try.f3 fn3 (.inr ⟨_, rfl⟩) (obs := []) (by kernel_rfl) trivial (by kernel_rfl) trivial (by kernel_rfl)
  have g0 : decide ((rs.length : Int) > 20) = false := decide_eq_false (by omega)
  have cn := vnew_e h
  rw [stV_nought] at cn
  have cw := vwrite_e h
  have cv := fun g => vvalue_e g (tabC h)
  have cs := vsum_e h
  simp only [stV] at cn cw cv
  have hmem : ∀ i, i < rs.length → rs.getD i [] ∈ rs := fun i hi => by rw [List.getD_eq_getElem?_getD, List.getElem?_eq_getElem hi]; exact List.getElem_mem _
  refine CallOK.from0 hmix Try.f3 1 fn3 (by kernel_rfl) (by kernel_rfl) (fun w ρ h1 h2 => ?_)
  generalize hfh : byt h = fh at *
  generalize hTb : tabC h = Tb at *
  refine AG.rs 20 [([], []), ([], [(2, { val := .ex (.bool false) })]), ([], [(0, { val := .ex (.agg { toList := ar8 16 fh }) }), (1, useR [] 25 ({ val := .p 0 0, upd := [(0, .mix (.p 1 0 :: List.map .ex (ar8 16 (byt 0#128)))), (1, .own Tb)], nks := [0, 1] }))]), ([], []), ([], []), ([], [])] [1, 2, 5, 6, 7] [0, 1, 25, 26] 27 (todo' := [.code (sub (codeOf Try.f3) [1, 1, 1, 1, 1, 0, 1, 0]), .inBlock 0, .code (sub (codeOf Try.f3) [1, 1, 1, 1, 1, 1])]) (st' := ⟨mkT 63 [(1, .sv 0 0 (List.length rs)), (2, .p 1 0), (5, .p 25 0), (6, .ex (.slice none 0 0)), (7, .ex (.int .i64 0))], [(0, .rows L), (1, .own (ar8 16 fh)), (25, .mix [.p 26 0, .ex (.int .u8 0), .ex (.int .u8 0), .ex (.int .u8 0), .ex (.int .u8 0), .ex (.int .u8 0), .ex (.int .u8 0), .ex (.int .u8 0), .ex (.int .u8 0), .ex (.int .u8 0), .ex (.int .u8 0), .ex (.int .u8 0), .ex (.int .u8 0), .ex (.int .u8 0), .ex (.int .u8 0), .ex (.int .u8 0), .ex (.int .u8 0)]), (26, .own Tb)], 27⟩) (obs := [Ob.eq (.ex (.bool (decide ((↑(List.length rs) : Int) > 20)))) (.ex (.bool false)), Ob.eq (.ex (.agg { toList := ar8 16 fh })) (.ex (.agg { toList := ar8 16 fh })), Ob.le 16 16, Ob.call (fun g => List.lookup g []) 4 [.ex (.agg { toList := ar8 16 fh })] [] (useR [] 25 { val := .p 0 0, upd := [(0, .mix (.p 1 0 :: List.map .ex (ar8 16 (byt 0#128)))), (1, .own Tb)], nks := [0, 1] })]) (by kernel_rfl) (by kernel_rfl) ⟨(by simp only [Ob.holds, g0]), (by simp only [Ob.holds, g0]), (Ob.holds_of_dec (by kernel_rfl)), (CallOK.at0 [] 25 (cn ) (.cons (.ex _) .nil) .nil (by kernel_rfl)), trivial⟩ ?_
  refine AG.rk 1 [1, 2, 5, 6, 7] [0, 1, 25, 26] 27 (todo' := [.code (sub (codeOf Try.f3) [1, 1, 1, 1, 1, 0, 1, 0, 0]), .inLoop (sub (codeOf Try.f3) [1, 1, 1, 1, 1, 0, 1, 0, 0]), .inBlock 0, .code (sub (codeOf Try.f3) [1, 1, 1, 1, 1, 1])]) (st' := ⟨mkT 63 [(1, .sv 0 0 (List.length rs)), (2, .p 1 0), (5, .p 25 0), (6, .ex (.slice none 0 0)), (7, .ex (.int .i64 0))], [(0, .rows L), (1, .own (ar8 16 fh)), (25, .mix [.p 26 0, .ex (.int .u8 0), .ex (.int .u8 0), .ex (.int .u8 0), .ex (.int .u8 0), .ex (.int .u8 0), .ex (.int .u8 0), .ex (.int .u8 0), .ex (.int .u8 0), .ex (.int .u8 0), .ex (.int .u8 0), .ex (.int .u8 0), .ex (.int .u8 0), .ex (.int .u8 0), .ex (.int .u8 0), .ex (.int .u8 0), .ex (.int .u8 0)]), (26, .own Tb)], 27⟩) (by kernel_rfl) (by kernel_rfl) ?_
  refine AG.nilrow 6 rfl rfl ?_
  refine AG.keep [1, 2, 5, 6, 7] [0, 1, 25, 26, 27] 28 rfl (by kernel_rfl) ?_
  refine AG.indE (α := {x : Nat × List Int // x.1 ≤ rs.length ∧ x.2.length ≤ 112 * x.1 ∧ All8 x.2 ∧ x.2.length % 16 = 0}) (fun x => rs.length - x.1.1)
    (fun x => ⟨mkT 63 [(1, .sv 0 0 rs.length), (2, .p 1 0), (5, .p 25 0), (6, .o 27 0 x.1.2.length), (7, .ex (.int .i64 (x.1.1 : Int)))], [(0, .rows L), (1, .own (ar8 16 fh)), (25, .mix (AV.p 26 0 :: (ar8 16 (byt (onV h 0#128 x.1.2 (x.1.2.length / 16)))).map AV.ex)), (26, .own Tb), (27, .row (x.1.2.map (Value.int .u8)))], 28⟩) ⟨(0, []), Nat.zero_le _, Nat.zero_le _, (fun x hx => nomatch hx), rfl⟩ (by kernel_rfl) ?_
  rintro ⟨⟨i, pre⟩, hi, hpl, hp8, hp16⟩ ih
  simp only at hi hpl hp8 hp16 ih ⊢
  by_cases hlt : i < rs.length
  · have g1 : decide ((i : Int) < (rs.length : Int)) = true := decide_eq_true (by omega)
    obtain ⟨row, hrow⟩ : ∃ row, row = rs.getD i [] := ⟨_, rfl⟩
    have hr8 := h8 _ (hmem i hlt)
    have e0 := hget i hlt
    rw [← hrow] at hr8 e0
    have hli : i < L.length := by rw [hlen]; exact hlt
    have e1 : L.getD (0 + (i : Int).toNat * 1) [] = row.map (Value.int .u8) := by rw [Nat.zero_add, Nat.mul_one, Int.toNat_natCast]; exact e0
    have e2 : (L.getD (0 + (i : Int).toNat * 1) []).length = row.length := by rw [e1, List.length_map]
    have hone : (L.getD (0 + (i : Int).toNat * 1) []).all (·.oneCell') = true := by rw [e1]; exact one_map _ _
    have hone2 : (List.take row.length (List.drop 0 (L.getD (0 + (i : Int).toNat * 1) []))).all (·.oneCell') = true := one_take (one_drop hone _) _
    by_cases hr100 : row.length ≤ 100
    case neg =>
      have g2 : decide ((row.length : Int) > 100) = true := decide_eq_true (by omega)
      generalize byt (onV h 0#128 pre (pre.length / 16)) = f1 at *
      refine AG.rs 13 [([], [(3, { val := .ex (.bool true) })]), ([2], [(3, { val := .sv 56 0 (List.length row) }), (5, { val := .ex (.bool true) })]), ([], [])] [4] [0] 1 (todo' := [.code (sub (codeOf Try.f3) [1, 0, 1, 0, 1]), .code (sub (codeOf Try.f3) [1, 1, 1, 1, 1, 0, 1, 0, 0, 1, 0, 0, 1]), .inBlock 1, .code (sub (codeOf Try.f3) [1, 1, 1, 1, 1, 0, 1, 0, 0, 1, 1]), .inLoop (sub (codeOf Try.f3) [1, 1, 1, 1, 1, 0, 1, 0, 0]), .inBlock 0, .code (sub (codeOf Try.f3) [1, 1, 1, 1, 1, 1])]) (st' := ⟨mkT 63 [(4, .ex (.bool true))], [(0, .rows L)], 1⟩) (obs := [Ob.eq (.ex (.bool (decide ((↑i : Int) < (↑(List.length rs) : Int))))) (.ex (.bool true)), Ob.ix (↑i : Int) (List.length rs), Ob.eq (.sv 56 0 (List.length (List.getD L (0 + Int.toNat (↑i : Int) * 1) []))) (.sv 56 0 (List.length row)), Ob.le (0 + Int.toNat (↑i : Int) * 1 + 1) (List.length L), Ob.eq (.ex (.bool (decide ((↑(List.length row) : Int) > 100)))) (.ex (.bool true))]) (by kernel_rfl) (by kernel_rfl) ⟨(by simp only [Ob.holds, g1]), (by (simp only [Ob.holds]; omega)), (by simp only [Ob.holds, e2]), (by (simp only [Ob.holds]; omega)), (by simp only [Ob.holds, g2]), trivial⟩ ?_
      refine AG.fin ([.ex (.bool true)]) Go.Proofs.Try.f3 fn3 (.inr ⟨_, rfl⟩) (obs := []) (by kernel_rfl) trivial (by kernel_rfl) trivial (by kernel_rfl)
    have g2 : decide ((row.length : Int) > 100) = false := decide_eq_false (by omega)
    have c1 := cw (onV h 0#128 pre (pre.length / 16)) row hr8 (by omega)
    have hval := valV_on h pre row hp16
    generalize onV h 0#128 pre (pre.length / 16) = X1 at *
    generalize onV h X1 row ((row.length + 15) / 16) = X2 at *
    rw [← e1] at c1
    have c2 := cv (byt X2)
    generalize byt X1 = f1 at *
    have eA : List.map (Value.int .u8) pre ++ List.take row.length (List.drop 0 (L.getD (0 + (i : Int).toNat * 1) [])) = (pre ++ row ++ List.replicate 0 0).map (Value.int .u8) := by
      rw [List.drop_zero, e1, List.take_of_length_le (by simp), List.replicate_zero, List.append_nil, List.map_append]
    have eB : (List.map (Value.int .u8) pre).length + (List.take row.length (List.drop 0 (L.getD (0 + (i : Int).toNat * 1) []))).length = (pre ++ row ++ List.replicate 0 0).length := by
      rw [List.drop_zero, e1, List.take_of_length_le (by simp)]; simp
    refine AG.rs 16 [([], [(3, { val := .ex (.bool true) })]), ([2], [(3, { val := .sv 56 0 (List.length row) }), (5, { val := .ex (.bool false) })]), ([3], [(4, { val := .sv 84 0 (List.length row) }), (5, useR [(0, 25, 0), (2, 84, 0), (1, 26, 0)] 88 ({ val := .tup [], upd := [(0, .mix (.p 1 0 :: List.map .ex (ar8 16 (byt X2))))], wks := [0] }))]), ([3, 5], [(4, { val := .sv 108 0 (List.length row) })])] [1, 2, 5, 6, 7] [0, 1, 25, 26, 112] 113 (todo' := [.code (sub (codeOf Try.f3) [1, 1, 1, 1, 1, 0, 1, 0, 0, 1, 0, 0, 1, 1, 1]), .inBlock 1, .code (sub (codeOf Try.f3) [1, 1, 1, 1, 1, 0, 1, 0, 0, 1, 1]), .inLoop (sub (codeOf Try.f3) [1, 1, 1, 1, 1, 0, 1, 0, 0]), .inBlock 0, .code (sub (codeOf Try.f3) [1, 1, 1, 1, 1, 1])]) (st' := ⟨mkT 63 [(1, .sv 0 0 (List.length rs)), (2, .p 1 0), (5, .p 25 0), (6, .o 112 0 (List.length (List.map (Value.int .u8) pre) + List.length (List.take (List.length row) (List.drop 0 (List.getD L (0 + Int.toNat (↑i : Int) * 1) []))))), (7, .ex (.int .i64 (↑i : Int)))], [(0, .rows L), (1, .own (ar8 16 fh)), (25, .mix ([.p 26 0] ++ List.map .ex (ar8 16 (byt X2)))), (26, .own Tb), (112, .row (List.map (Value.int .u8) pre ++ List.take (List.length row) (List.drop 0 (List.getD L (0 + Int.toNat (↑i : Int) * 1) []))))], 113⟩) (obs := [Ob.eq (.ex (.bool (decide ((↑i : Int) < (↑(List.length rs) : Int))))) (.ex (.bool true)), Ob.ix (↑i : Int) (List.length rs), Ob.eq (.sv 56 0 (List.length (List.getD L (0 + Int.toNat (↑i : Int) * 1) []))) (.sv 56 0 (List.length row)), Ob.le (0 + Int.toNat (↑i : Int) * 1 + 1) (List.length L), Ob.eq (.ex (.bool (decide ((↑(List.length row) : Int) > 100)))) (.ex (.bool false)), Ob.ix (↑i : Int) (List.length rs), Ob.eq (.sv 84 0 (List.length (List.getD L (0 + Int.toNat (↑i : Int) * 1) []))) (.sv 84 0 (List.length row)), Ob.le (0 + Int.toNat (↑i : Int) * 1 + 1) (List.length L), Ob.call (fun g => List.lookup g []) 5 [.p 25 0, .sv 84 0 (List.length row)] [(25, .mix (.p 26 0 :: List.map .ex (ar8 16 f1))), (84, .view (List.getD L (0 + Int.toNat (↑i : Int) * 1) [])), (26, .own Tb)] (useR [(0, 25, 0), (2, 84, 0), (1, 26, 0)] 88 { val := .tup [], upd := [(0, .mix (.p 1 0 :: List.map .ex (ar8 16 (byt X2))))], wks := [0] }), Ob.ix (↑i : Int) (List.length rs), Ob.eq (.sv 108 0 (List.length (List.getD L (0 + Int.toNat (↑i : Int) * 1) []))) (.sv 108 0 (List.length row)), Ob.le (0 + Int.toNat (↑i : Int) * 1 + 1) (List.length L), Ob.le ((List.length (List.map (Value.int .u8) pre) + List.length (List.take (List.length row) (List.drop 0 (List.getD L (0 + Int.toNat (↑i : Int) * 1) [])))) * 1) 140737488355328, Ob.le (List.length (List.map (Value.int .u8) pre) + List.length (List.take (List.length row) (List.drop 0 (List.getD L (0 + Int.toNat (↑i : Int) * 1) [])))) 140737488355328, Ob.one (List.take (List.length row) (List.drop 0 (List.getD L (0 + Int.toNat (↑i : Int) * 1) []))), Ob.le (List.length pre) (List.length (List.map (Value.int .u8) pre)), Ob.le (List.length (List.map (Value.int .u8) pre)) (List.length pre), Ob.le (0 + List.length row) (List.length (List.getD L (0 + Int.toNat (↑i : Int) * 1) []))]) (by kernel_rfl) (by kernel_rfl) ⟨(by simp only [Ob.holds, g1]), (by (simp only [Ob.holds]; omega)), (by simp only [Ob.holds, e2]), (by (simp only [Ob.holds]; omega)), (by simp only [Ob.holds, g2]), (by (simp only [Ob.holds]; omega)), (by simp only [Ob.holds, e2]), (by (simp only [Ob.holds]; omega)), (CallOK.at0 [(0, 25, 0), (2, 84, 0), (1, 26, 0)] 88 (c1 ) (.cons (.p rfl) (.cons (.vv rfl) .nil)) (.cons rfl rfl ⟨_, rfl, rfl, (.cons (.p rfl) (FitL.exs _))⟩ (.cons rfl rfl ⟨_, rfl, (by exact cov_all _)⟩ (.cons rfl rfl ⟨_, rfl, (by exact cov_all _)⟩ .nil))) (by kernel_rfl)), (by (simp only [Ob.holds]; omega)), (by simp only [Ob.holds, e2]), (by (simp only [Ob.holds]; omega)), (by (simp [Ob.holds]; omega)), (by (simp [Ob.holds]; omega)), (by (simp only [Ob.holds]; omega)), (by (simp [Ob.holds]; done)), (by (simp [Ob.holds]; done)), (by (simp only [Ob.holds]; omega)), trivial⟩ ?_
    rewrite [eA, eB]
    refine AG.ren 112 27 rfl (by kernel_rfl) ?_
    refine AG.re 25 (.mix (AV.p 26 0 :: (ar8 16 (byt X2)).map AV.ex)) (by kernel_rfl) ?_
    refine AG.keep [1, 2, 5, 6, 7] [0, 1, 25, 26, 27] 28 rfl (by kernel_rfl) ?_
    refine AG.rk 1 [1, 2, 5, 6, 7] [0, 1, 25, 26, 27] 28 (todo' := [.code (sub (codeOf Try.f3) [1, 1, 1, 1, 1, 0, 1, 0, 0, 1, 0, 0, 1, 1, 1, 0]), .code (sub (codeOf Try.f3) [1, 1, 1, 1, 1, 0, 1, 0, 0, 1, 0, 0, 1, 1, 1, 1]), .inBlock 1, .code (sub (codeOf Try.f3) [1, 1, 1, 1, 1, 0, 1, 0, 0, 1, 1]), .inLoop (sub (codeOf Try.f3) [1, 1, 1, 1, 1, 0, 1, 0, 0]), .inBlock 0, .code (sub (codeOf Try.f3) [1, 1, 1, 1, 1, 1])]) (st' := ⟨mkT 63 [(1, .sv 0 0 (List.length rs)), (2, .p 1 0), (5, .p 25 0), (6, .o 27 0 (List.length (pre ++ row ++ List.replicate 0 0))), (7, .ex (.int .i64 (↑i : Int)))], [(0, .rows L), (1, .own (ar8 16 fh)), (25, .mix (.p 26 0 :: List.map .ex (ar8 16 (byt X2)))), (26, .own Tb), (27, .row (List.map (Value.int .u8) (pre ++ row ++ List.replicate 0 0)))], 28⟩) (by kernel_rfl) (by kernel_rfl) ?_
    refine AG.rk 1 [1, 2, 5, 6, 7] [0, 1, 25, 26, 27] 28 (todo' := [.code (sub (codeOf Try.f3) [1, 1, 1, 1, 1, 0, 1, 0, 0, 1, 0, 0, 1, 1, 1, 0, 0]), .inBlock 2, .code (sub (codeOf Try.f3) [1, 1, 1, 1, 1, 0, 1, 0, 0, 1, 0, 0, 1, 1, 1, 1]), .inBlock 1, .code (sub (codeOf Try.f3) [1, 1, 1, 1, 1, 0, 1, 0, 0, 1, 1]), .inLoop (sub (codeOf Try.f3) [1, 1, 1, 1, 1, 0, 1, 0, 0]), .inBlock 0, .code (sub (codeOf Try.f3) [1, 1, 1, 1, 1, 1])]) (st' := ⟨mkT 63 [(1, .sv 0 0 (List.length rs)), (2, .p 1 0), (5, .p 25 0), (6, .o 27 0 (List.length (pre ++ row ++ List.replicate 0 0))), (7, .ex (.int .i64 (↑i : Int)))], [(0, .rows L), (1, .own (ar8 16 fh)), (25, .mix (.p 26 0 :: List.map .ex (ar8 16 (byt X2)))), (26, .own Tb), (27, .row (List.map (Value.int .u8) (pre ++ row ++ List.replicate 0 0)))], 28⟩) (by kernel_rfl) (by kernel_rfl) ?_
    refine AG.rk 1 [1, 2, 5, 6, 7] [0, 1, 25, 26, 27] 28 (todo' := [.code (sub (codeOf Try.f3) [1, 1, 1, 1, 1, 0, 1, 0, 0, 1, 0, 0, 1, 1, 1, 0, 0, 0]), .inLoop (sub (codeOf Try.f3) [1, 1, 1, 1, 1, 0, 1, 0, 0, 1, 0, 0, 1, 1, 1, 0, 0, 0]), .inBlock 2, .code (sub (codeOf Try.f3) [1, 1, 1, 1, 1, 0, 1, 0, 0, 1, 0, 0, 1, 1, 1, 1]), .inBlock 1, .code (sub (codeOf Try.f3) [1, 1, 1, 1, 1, 0, 1, 0, 0, 1, 1]), .inLoop (sub (codeOf Try.f3) [1, 1, 1, 1, 1, 0, 1, 0, 0]), .inBlock 0, .code (sub (codeOf Try.f3) [1, 1, 1, 1, 1, 1])]) (st' := ⟨mkT 63 [(1, .sv 0 0 (List.length rs)), (2, .p 1 0), (5, .p 25 0), (6, .o 27 0 (List.length (pre ++ row ++ List.replicate 0 0))), (7, .ex (.int .i64 (↑i : Int)))], [(0, .rows L), (1, .own (ar8 16 fh)), (25, .mix (.p 26 0 :: List.map .ex (ar8 16 (byt X2)))), (26, .own Tb), (27, .row (List.map (Value.int .u8) (pre ++ row ++ List.replicate 0 0)))], 28⟩) (by kernel_rfl) (by kernel_rfl) ?_
    clear eA eB c1 hone hone2 e1 e2 e0
    have hu : row.length ≤ up16 row.length := by unfold up16; omega
    refine AG.indE (α := {m : Nat // row.length + m ≤ up16 row.length}) (fun m => up16 row.length - m.1)
      (fun m => ⟨mkT 63 [(1, .sv 0 0 rs.length), (2, .p 1 0), (5, .p 25 0), (6, .o 27 0 (pre ++ row ++ List.replicate m.1 0).length), (7, .ex (.int .i64 (i : Int)))], [(0, .rows L), (1, .own (ar8 16 fh)), (25, .mix (AV.p 26 0 :: (ar8 16 (byt X2)).map AV.ex)), (26, .own Tb), (27, .row ((pre ++ row ++ List.replicate m.1 0).map (Value.int .u8)))], 28⟩) ⟨0, by omega⟩ (by kernel_rfl) ?_
    rintro ⟨m, hm⟩ ih2
    simp only at hm ih2 ⊢
    have hQs : pre ++ row ++ List.replicate (m + 1) 0 = (pre ++ row ++ List.replicate m 0) ++ [0] := by rw [List.replicate_succ', ← List.append_assoc]
    have hQl : (pre ++ row ++ List.replicate m 0).length = pre.length + row.length + m := by simp only [List.length_append, List.length_replicate]
    have hQp : row.length + m = up16 row.length → pre ++ row ++ List.replicate m 0 = pre ++ padL row := fun h => by rw [List.append_assoc, padL_eq row m h]
    have tm : ((pre ++ row ++ List.replicate m 0).length : Int).tmod 16 = (((row.length + m) % 16 : Nat) : Int) := by
      rw [Int.tmod_eq_emod_of_nonneg (by omega), hQl]; omega
    generalize hQ : pre ++ row ++ List.replicate m 0 = Q at *
    by_cases hend : row.length + m = up16 row.length
    · have g3 : ((Q.length : Int).tmod 16 != 0) = false := by
        rw [tm, hend]; unfold up16
        rw [show (row.length + 15) / 16 * 16 % 16 = 0 by omega]; rfl
      have hQe := hQp hend
      have cS := cs Q (by
        rw [hQe]
        intro x hx
        rcases List.mem_append.1 hx with h | h
        · exact hp8 x h
        · unfold padL at h
          obtain ⟨j, _, rfl⟩ := List.mem_map.1 h
          exact hr8.at _) (by rw [hQl]; unfold up16 at hm; omega)
      rw [hQe, hval] at cS
      rw [← hQe] at cS
      have n1 := eqX X2
      have n2 := eqX' X2
      have c2 := cv (byt X2)
      have w5 : IntKind.i64.wrap ((i : Int) + 1) = ((i + 1 : Nat) : Int) := by rw [wrap64_id _ (by omega) (by omega)]; omega
      have ihh := ih ⟨(i + 1, Q), hlt, by simp only; rw [hQl]; unfold up16 at hend; omega, by
        rw [hQe]
        intro x hx
        rcases List.mem_append.1 hx with h | h
        · exact hp8 x h
        · unfold padL at h
          obtain ⟨j, _, rfl⟩ := List.mem_map.1 h
          exact hr8.at _, by simp only; rw [hQl]; unfold up16 at hend; omega⟩ (by simp only; omega)
      simp only at ihh
      have eX : onV h 0#128 Q (Q.length / 16) = X2 := by
        rw [← hval, ← hQe]
        unfold valV
        rw [show (Q.length + 15) / 16 = Q.length / 16 by rw [hQl]; unfold up16 at hend; omega]
      rw [eX] at ihh
      clear ih2 ih eX hval
      generalize byt X2 = f2 at *
      refine AG.rs 12 [([], [(3, { val := .ex (.bool false) })]), ([], [(1, useR [(0, 25, 0), (1, 26, 0)] 48 ({ val := .ex (.agg (List.toArray (ar8 16 f2))) })), (2, { val := .ex (.agg { toList := ar8 16 fh }) }), (4, useR [(0, 27, 0)] 60 ({ val := .ex (.agg (List.toArray (ar8 16 f2))) })), (5, { val := .ex (.bool false) })]), ([], [(1, { val := .ex (.int .i64 (↑(i + 1) : Int)) })])] [1, 2, 5, 6, 7] [0, 1, 25, 26, 27] 28 (todo' := [.code (sub (codeOf Try.f3) [1, 1, 1, 1, 1, 0, 1, 0, 0]), .inLoop (sub (codeOf Try.f3) [1, 1, 1, 1, 1, 0, 1, 0, 0]), .inBlock 0, .code (sub (codeOf Try.f3) [1, 1, 1, 1, 1, 1])]) (st' := ⟨mkT 63 [(1, .sv 0 0 (List.length rs)), (2, .p 1 0), (5, .p 25 0), (6, .o 27 0 (List.length Q)), (7, .ex (.int .i64 (↑(i + 1) : Int)))], [(0, .rows L), (1, .own (ar8 16 fh)), (25, .mix (.p 26 0 :: List.map .ex (ar8 16 f2))), (26, .own Tb), (27, .row (List.map (Value.int .u8) Q))], 28⟩) (obs := [Ob.eq (.ex (.bool (Int.tmod (↑(List.length Q) : Int) 16 != 0))) (.ex (.bool false)), Ob.call (fun g => List.lookup g []) 6 [.p 25 0] [(25, .mix (.p 26 0 :: List.map .ex (ar8 16 f2))), (26, .own Tb)] (useR [(0, 25, 0), (1, 26, 0)] 48 { val := .ex (.agg (List.toArray (ar8 16 f2))) }), Ob.eq (.ex (.agg { toList := ar8 16 fh })) (.ex (.agg { toList := ar8 16 fh })), Ob.le 16 16, Ob.call (fun g => List.lookup g []) 7 [.ex (.agg { toList := ar8 16 fh }), .o 27 0 (List.length Q)] [(27, .row (List.map (Value.int .u8) Q))] (useR [(0, 27, 0)] 60 { val := .ex (.agg (List.toArray (ar8 16 f2))) }), Ob.eq (.ex (.bool !eqL (List.map f2 (List.range 16)) (List.map f2 (List.range 16)))) (.ex (.bool false)), Ob.eq (.ex (.int .i64 (IntKind.wrap .i64 ((↑i : Int) + 1)))) (.ex (.int .i64 (↑(i + 1) : Int)))]) (by kernel_rfl) (by kernel_rfl) ⟨(by simp only [Ob.holds, g3]), (CallOK.at0 [(0, 25, 0), (1, 26, 0)] 48 (c2 ) (.cons (.p rfl) .nil) (.cons rfl rfl ⟨_, .inl rfl, rfl, (.cons (.p rfl) (FitL.exs _)), (by simp)⟩ (.cons rfl rfl ⟨_, rfl, (by exact cov_all _)⟩ .nil)) (by kernel_rfl)), (by simp only [Ob.holds, g3, n1, n2, w5]), (Ob.holds_of_dec (by kernel_rfl)), (CallOK.at0 [(0, 27, 0)] 60 (cS ) (.cons (.ex _) (.cons (.vo rfl) .nil)) (.cons rfl rfl ⟨_, rfl, (by exact cov_all _)⟩ .nil) (by kernel_rfl)), (by first | (simp only [Ob.holds, g3, n1, n2, w5]; done) | (simp only [Ob.holds, g3, n1, n2, w5]; rfl)), (by simp only [Ob.holds, w5]), trivial⟩ ?_
      exact ihh
    · have g3 : ((Q.length : Int).tmod 16 != 0) = true := by
        rw [tm]
        have : (row.length + m) % 16 ≠ 0 := by unfold up16 at hend hm; omega
        simp; omega
      have ihh := ih2 ⟨m + 1, by unfold up16 at hend hm ⊢; omega⟩ (by simp only; unfold up16 at hend hm ⊢; omega)
      simp only at ihh
      rw [hQs] at ihh
      have hm16 : m ≤ 16 := by unfold up16 at hm; omega
      clear ih2 ih hval
      generalize byt X2 = f2 at *
      refine AG.rs 9 [([], [(3, { val := .ex (.bool true) })]), ([2], [])] [1, 2, 5, 6, 7] [0, 1, 25, 26, 52] 53 (todo' := [.code (sub (codeOf Try.f3) [1, 1, 1, 1, 1, 0, 1, 0, 0, 1, 0, 0, 1, 1, 1, 0, 0, 0]), .inLoop (sub (codeOf Try.f3) [1, 1, 1, 1, 1, 0, 1, 0, 0, 1, 0, 0, 1, 1, 1, 0, 0, 0]), .inBlock 2, .code (sub (codeOf Try.f3) [1, 1, 1, 1, 1, 0, 1, 0, 0, 1, 0, 0, 1, 1, 1, 1]), .inBlock 1, .code (sub (codeOf Try.f3) [1, 1, 1, 1, 1, 0, 1, 0, 0, 1, 1]), .inLoop (sub (codeOf Try.f3) [1, 1, 1, 1, 1, 0, 1, 0, 0]), .inBlock 0, .code (sub (codeOf Try.f3) [1, 1, 1, 1, 1, 1])]) (st' := ⟨mkT 63 [(1, .sv 0 0 (List.length rs)), (2, .p 1 0), (5, .p 25 0), (6, .o 52 0 (List.length (List.map (Value.int .u8) Q) + 1)), (7, .ex (.int .i64 (↑i : Int)))], [(0, .rows L), (1, .own (ar8 16 fh)), (25, .mix (.p 26 0 :: List.map .ex (ar8 16 f2))), (26, .own Tb), (52, .row (List.map (Value.int .u8) Q ++ List.take 1 (List.drop 0 [Value.int .u8 0])))], 53⟩) (obs := [Ob.eq (.ex (.bool (Int.tmod (↑(List.length Q) : Int) 16 != 0))) (.ex (.bool true)), Ob.le ((List.length (List.map (Value.int .u8) Q) + 1) * 1) 140737488355328, Ob.le (List.length (List.map (Value.int .u8) Q) + 1) 140737488355328, Ob.one [Value.int .u8 0], Ob.le (List.length Q) (List.length (List.map (Value.int .u8) Q)), Ob.le (List.length (List.map (Value.int .u8) Q)) (List.length Q), Ob.le 1 1]) (by kernel_rfl) (by kernel_rfl) ⟨(by simp only [Ob.holds, g3]), (by (simp [Ob.holds]; omega)), (by (simp [Ob.holds]; omega)), (Ob.holds_of_dec (by kernel_rfl)), (by (simp [Ob.holds]; done)), (by (simp [Ob.holds]; done)), (Ob.holds_of_dec (by kernel_rfl)), trivial⟩ ?_
      rewrite [show List.map (Value.int .u8) Q ++ List.take 1 (List.drop 0 [Value.int .u8 0]) = (Q ++ [0]).map (Value.int .u8) by rw [List.map_append]; rfl, show (List.map (Value.int .u8) Q).length + 1 = (Q ++ [0]).length by rw [List.length_map, List.length_append]; rfl]
      refine AG.ren 52 27 rfl (by kernel_rfl) ?_
      refine AG.keep [1, 2, 5, 6, 7] [0, 1, 25, 26, 27] 28 rfl (by kernel_rfl) ?_
      exact AG.conv (by kernel_rfl) ihh
  · have g1 : decide ((i : Int) < (rs.length : Int)) = false := decide_eq_false (by omega)
    clear ih
    generalize byt (onV h 0#128 pre (pre.length / 16)) = f1 at *
    refine AG.rs 11 [([], [(3, { val := .ex (.bool false) })]), ([], []), ([], [(2, useR [(0, 27, 0)] 56 ({ val := .tup [] }))]), ([], [(1, { val := .ex (.agg (List.toArray (ar8 16 fun x => 0))) }), (5, { val := .ex (.bool true) })])] [4] [0] 1 (todo' := [.code (sub (codeOf Try.f3) [1, 0, 1, 0, 1])]) (st' := ⟨mkT 63 [(4, .ex (.bool true))], [(0, .rows L)], 1⟩) (obs := [Ob.eq (.ex (.bool (decide ((↑i : Int) < (↑(List.length rs) : Int))))) (.ex (.bool false)), Ob.call (fun g => List.lookup g []) 5 [.ex (.pointer none), .o 27 0 (List.length pre)] [(27, .row (List.map (Value.int .u8) pre))] (useR [(0, 27, 0)] 56 { val := .tup [] }), Ob.call (fun g => List.lookup g []) 6 [.ex (.pointer none)] [] { val := .ex (.agg (List.toArray (ar8 16 fun x => 0))) }, Ob.call (fun g => List.lookup g []) 8 [] [] { val := .ex (.bool true) }]) (by kernel_rfl) (by kernel_rfl) ⟨(by simp only [Ob.holds, g1]), (CallOK.at0 [(0, 27, 0)] 56 (Go.Proofs.Ytkinogfolggaoaa.Ab.wnil_ok (List.length pre) (List.map (Value.int .u8) pre)) (.cons (.ex _) (.cons (.vo rfl) .nil)) (.cons rfl rfl ⟨_, rfl, (by exact cov_all _)⟩ .nil) (by kernel_rfl)), ((Go.Proofs.Ytkinogfolggaoaa.Ab.vnil_ok ).gl), ((Go.Proofs.Ytkinogfolggaoaa.Ab.awake11_ok ).gl), trivial⟩ ?_
    refine AG.fin ([.ex (.bool true)]) Go.Proofs.Try.f3 fn3 (.inr ⟨_, rfl⟩) (obs := []) (by kernel_rfl) trivial (by kernel_rfl) trivial (by kernel_rfl)
end Go.Proofs.Ytkinogfolggaoaa.Ab
