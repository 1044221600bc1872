/- Own: states of layer 11 (no statement is proved here). -/
import Derived.Test.YtdfbcdgneboilaaDoorV1
import Derived.KernelRfl
namespace Go.Proofs.YtdfbcdgneboilaaDoor.Ab
open Go.Proofs
set_option linter.unusedSimpArgs false
set_option linter.unusedVariables false
theorem fn52 : Tryd.prog.funcs[52]? = some Tryd.f52 := by kernel_rfl
theorem fn53 : Tryd.prog.funcs[53]? = some Tryd.f53 := by kernel_rfl
theorem fn54 : Tryd.prog.funcs[54]? = some Tryd.f54 := by kernel_rfl
theorem fn34 : Tryd.prog.funcs[34]? = some Tryd.f34 := by kernel_rfl
theorem fn55 : Tryd.prog.funcs[55]? = some Tryd.f55 := by kernel_rfl
theorem fn35 : Tryd.prog.funcs[35]? = some Tryd.f35 := by kernel_rfl
theorem fn21 : Tryd.prog.funcs[21]? = some Tryd.f21 := by kernel_rfl
/-- The cells of a state: its table, its value. -/
abbrev stV (g : Nat → Int) : List AV := AV.p 1 0 :: (ar8 16 g).map AV.ex
theorem vnew_e (h : E) : CallOK Tryd.prog (fun _ => none) 52 [.ex (.agg (ar8 16 (byt h)).toArray)] [] { val := .p 0 0, upd := [(0, .mix (stV (fun _ => 0))), (1, .own (tabC h))], nks := [0, 1] } := by
  have c1 := make_e h
  generalize tabC h = Tb at *
  refine CallOK.from0 hmix Tryd.f52 0 fn52 (by kernel_rfl) (by kernel_rfl) (fun w ρ h1 h2 => ?_)
  refine AG.rk 3 [1] [0] 1 (todo' := [.code (sub (codeOf Tryd.f52) [1, 0]), .code (sub (codeOf Tryd.f52) [1, 1])]) (st' := ⟨mkT 7 [(1, .p 0 0)], [(0, .own (ar8 16 (byt h)))], 1⟩) (by kernel_rfl) (by kernel_rfl) ?_
  refine AG.gk [] [(1, useR [] 5 ({ val := .p 0 0, upd := [(0, .own Tb)], nks := [0] }))] [2] [5, 13] 14 (st' := ⟨mkT 7 [(2, .p 13 0)], [(5, .own Tb), (13, .mix [.p 5 0, .ex (.int .u8 0), .ex (.int .u8 0), .ex (.int .u8 0), .ex (.int .u8 0), .ex (.int .u8 0), .ex (.int .u8 0), .ex (.int .u8 0), .ex (.int .u8 0), .ex (.int .u8 0), .ex (.int .u8 0), .ex (.int .u8 0), .ex (.int .u8 0), .ex (.int .u8 0), .ex (.int .u8 0), .ex (.int .u8 0), .ex (.int .u8 0)])], 14⟩) (obs := [Ob.call (fun g => List.lookup g []) 68 [.ex (.agg { toList := ar8 16 (byt h) })] [] (useR [] 5 { val := .p 0 0, upd := [(0, .own Tb)], nks := [0] })]) (by kernel_rfl) (by kernel_rfl) ⟨(CallOK.at0 [] 5 (c1 ) (.cons (.ex _) .nil) .nil (by kernel_rfl)), trivial⟩ ?_
  refine AG.ren 5 1 rfl (by kernel_rfl) ?_
  refine AG.ren 13 0 rfl (by kernel_rfl) ?_
  refine AG.fin ([.p 0 0]) Go.Proofs.Tryd.f52 fn52 (.inr ⟨_, rfl⟩) (obs := []) (by kernel_rfl) trivial (by kernel_rfl) ⟨(by kernel_rfl), (by kernel_rfl), trivial⟩ (by kernel_rfl)
theorem vvalue_e (g : Nat → Int) (Tb : List Value) : CallOK Tryd.prog (fun _ => none) 54 [.p 0 0] [(0, .mixv (stV g)), (1, .view Tb)] { val := .ex (.agg (ar8 16 g).toArray) } := by
  refine CallOK.from0 hmix Tryd.f54 2 fn54 (by kernel_rfl) (by kernel_rfl) (fun w ρ h1 h2 => ?_)
  refine AG.rk 9 [2] [0, 1, 2] 3 (todo' := [.code (sub (codeOf Tryd.f54) [1, 0, 1, 0, 1])]) (st' := ⟨mkT 10 [(2, .p 2 0)], [(0, .mixv (.p 1 0 :: List.map .ex (ar8 16 g))), (1, .view Tb), (2, .own (ar8 16 g))], 3⟩) (by kernel_rfl) (by kernel_rfl) ?_
  refine AG.fin ([.ex (.agg { toList := ar8 16 g })]) Go.Proofs.Tryd.f54 fn54 (.inr ⟨_, rfl⟩) (obs := [Ob.le 16 16]) (by kernel_rfl) ⟨(Ob.holds_of_dec (by kernel_rfl)), trivial⟩ (by kernel_rfl) trivial (by kernel_rfl)
/-- A value, gone on by bytes. -/
def onV (h : E) (v : E) (bs : List Int) : Nat → E
  | 0 => v
  | q + 1 => dot (onV h v bs q ^^^ el (fun j => bAt bs ((16 * q + j : Nat) : Int))) h
theorem len_stV (g : Nat → Int) : (stV g).length = 17 := rfl
theorem getD_stV (g : Nat → Int) (i : Int) (h0 : 0 ≤ i) (h : i < 16) : (stV g).getD (1 + i.toNat * 1) .j = .ex (.int .u8 (g i.toNat)) := by
  obtain ⟨n, rfl⟩ := Int.eq_ofNat_of_zero_le h0
  rw [Int.toNat_natCast, Nat.mul_one, Nat.add_comm]
  unfold stV
  rw [List.getD_eq_getElem?_getD, List.getElem?_cons_succ, List.getElem?_map, getElem_ar8 _ _ _ (by omega)]
  rfl
theorem put_stV (g : Nat → Int) (i : Int) (h0 : 0 ≤ i) (h : i < 16) (x : Int) : putAt (stV g) (1 + i.toNat * 1) [AV.ex (.int .u8 x)] = stV (upd g i.toNat x) := by
  obtain ⟨n, rfl⟩ := Int.eq_ofNat_of_zero_le h0
  rw [Int.toNat_natCast, Nat.mul_one, Nat.add_comm]
  have hn : n < 16 := by omega
  rw [putAt_eq _ _ _ (by rw [len_stV]; simp; omega)]
  apply List.ext_getElem?
  intro j
  cases j with
  | zero => rfl
  | succ j =>
    unfold stV
    simp only [List.take_succ_cons, List.length_cons, List.length_nil, List.cons_append, List.getElem?_cons_succ]
    by_cases hj : j < 16
    · rw [List.getElem?_map, getElem_ar8 _ _ _ hj]
      by_cases h1 : j < n
      · rw [List.getElem?_append_left (by simp [length_ar8]; omega), List.getElem?_append_left (by simp [length_ar8]; omega), List.getElem?_take, if_pos h1, List.getElem?_map, getElem_ar8 _ _ _ hj]
        simp [upd, show ¬ j = n by omega]
      · by_cases h2 : j = n
        · subst h2
          rw [List.getElem?_append_left (by simp [length_ar8]; omega), List.getElem?_append_right (by simp [length_ar8]; exact Nat.min_le_left _ _)]
          simp [length_ar8, upd, show min j 16 = j by omega]
        · rw [List.getElem?_append_right (by simp [length_ar8]; omega)]
          simp only [List.length_append, List.length_take, List.length_map, length_ar8, List.length_cons, List.length_nil, List.getElem?_drop, show min n 16 = n by omega]
          rw [show n + 1 + 1 + (j - (n + (0 + 1))) = (j) + 1 by omega, List.getElem?_cons_succ, List.getElem?_map, getElem_ar8 _ _ _ hj]
          simp [upd, h2]
    · rw [List.getElem?_eq_none (by simp [length_ar8]; omega), List.getElem?_eq_none (by simp [length_ar8]; omega)]
/-- A value, its first n bytes by exclusive or with those of a part. -/
def xon (g : Nat → Int) (bs : List Int) (q n : Nat) (j : Nat) : Int := if j < n then xor8 (g j) (bAt bs ((16 * q + j : Nat) : Int)) else g j
theorem xon_all (v : E) (bs : List Int) (h8 : All8 bs) (q n : Nat) (hn : n = min (bs.length - 16 * q) 16) (j : Nat) (hj : j < 16) : xon (byt v) bs q n j = byt (v ^^^ el (fun i => bAt bs ((16 * q + i : Nat) : Int))) j := by
  have hb : ∀ i, i < 16 → R8 (bAt bs ((16 * q + i : Nat) : Int)) := fun i _ => h8.at _
  have e := byt_el (fun i => bAt bs ((16 * q + i : Nat) : Int)) hb j hj
  rw [← byt_xor _ _ _ hj, e]
  unfold xon
  split
  · rfl
  · rw [bAt_out bs _ (by omega)]
    exact (xor8_zero _ (r8_byt v j)).symm
theorem vwrite_e (h v : E) (bs : List Int) (h8 : All8 bs) (hl : bs.length ≤ 1000000) : CallOK Tryd.prog (fun _ => none) 53 [.p 0 0, .sv 2 0 bs.length] [(0, .mix (stV (byt v))), (1, .view (tabC h)), (2, .view (bs.map (Value.int .u8)))] { val := .tup [], upd := [(0, .mix (stV (byt (onV h v bs ((bs.length + 15) / 16)))))], wks := [0] } := by
  have hdot := fun u => dott_e u h
  generalize hT : tabC h = Tb at *
  refine CallOK.from0 hmix Tryd.f53 3 fn53 (by kernel_rfl) (by kernel_rfl) (fun w ρ h1 h2 => ?_)
  refine AG.rk 8 [0, 1] [0, 1, 2] 3 (todo' := [.code (sub (codeOf Tryd.f53) [0, 1, 1]), .inScope (sub (codeOf Tryd.f53) [0])]) (st' := ⟨mkT 48 [(0, .p 0 0), (1, .sv 2 0 (List.length bs))], [(0, .mix (.p 1 0 :: List.map .ex (ar8 16 (byt v)))), (1, .view Tb), (2, .view (List.map (Value.int .u8) bs))], 3⟩) (by kernel_rfl) (by kernel_rfl) ?_
  refine AG.re 0 (.mix (stV (byt v))) (by kernel_rfl) ?_
  refine AG.indE (α := {q : Nat // 16 * q ≤ bs.length + 15}) (fun q => (bs.length + 15) / 16 - q.1)
    (fun q => ⟨mkT 48 [(0, AV.p 0 0), (1, AV.sv 2 (min (16 * q.1) bs.length) (bs.length - 16 * q.1))], [(0, .mix (stV (byt (onV h v bs q.1)))), (1, .view Tb), (2, .view (List.map (Value.int IntKind.u8) bs))], 3⟩) ⟨0, by omega⟩ (by simp only [Nat.mul_zero, Nat.zero_min, Nat.sub_zero]; kernel_rfl) ?_
  rintro ⟨q, hq⟩ ih
  simp only at hq ih ⊢
  generalize ha : min (16 * q) bs.length = a at *
  have hlV : (stV (byt (onV h v bs q))).length = 17 := rfl
  refine AG.rk 2 [0, 1, 10] [0, 1, 2] 3 (todo' := [.code (sub (codeOf Tryd.f53) [0, 1, 1, 1]), .inScope (sub (codeOf Tryd.f53) [0])]) (st' := ⟨mkT 48 [(0, .p 0 0), (1, .sv 2 a (List.length bs - 16 * q)), (10, .ex (.bool (decide ((↑(List.length bs - 16 * q) : Int) > 0))))], [(0, .mix (.p 1 0 :: List.map .ex (ar8 16 (byt (onV h v bs q))))), (1, .view Tb), (2, .view (List.map (Value.int .u8) bs))], 3⟩) (by kernel_rfl) (by kernel_rfl) ?_
  refine AG.cond (b := decide ((↑(List.length bs - 16 * q) : Int) > 0)) (by kernel_rfl) (fun hc => ?_) (fun hc => ?_)
  · have hq' : 16 * q < bs.length := by simp at hc; omega
    clear hc
    have haq : a = 16 * q := by omega
    generalize hV : byt (onV h v bs q) = V at *
    obtain ⟨n, hn⟩ : ∃ n, n = min (bs.length - 16 * q) 16 := ⟨_, rfl⟩
    have em : (if (16 : Int) < ((bs.length - 16 * q : Nat) : Int) then 16 else ((bs.length - 16 * q : Nat) : Int)) = (n : Int) := by split <;> omega
    refine AG.rk 6 [0, 1, 4, 14, 15] [0, 1, 2] 3 (todo' := [.code (sub (codeOf Tryd.f53) [0, 1, 1, 1, 0, 1, 0, 1, 0]), .inBlock 0, .code (sub (codeOf Tryd.f53) [0, 1, 1, 1, 0, 1, 1]), .inScope (sub (codeOf Tryd.f53) [0])]) (st' := ⟨mkT 48 [(0, .p 0 0), (1, .sv 2 a (List.length bs - 16 * q)), (4, .ex (.int .i64 (if 16 < (↑(List.length bs - 16 * q) : Int) then 16 else (↑(List.length bs - 16 * q) : Int)))), (14, .ex (.int .i64 (if 16 < (↑(List.length bs - 16 * q) : Int) then 16 else (↑(List.length bs - 16 * q) : Int)))), (15, .ex (.int .i64 0))], [(0, .mix (.p 1 0 :: List.map .ex (ar8 16 V))), (1, .view Tb), (2, .view (List.map (Value.int .u8) bs))], 3⟩) (by kernel_rfl) (by kernel_rfl) ?_
    rewrite [em]
    refine AG.rk 1 [0, 1, 4, 14, 15] [0, 1, 2] 3 (todo' := [.code (sub (codeOf Tryd.f53) [0, 1, 1, 1, 0, 1, 0, 1, 0, 0]), .inLoop (sub (codeOf Tryd.f53) [0, 1, 1, 1, 0, 1, 0, 1, 0, 0]), .inBlock 0, .code (sub (codeOf Tryd.f53) [0, 1, 1, 1, 0, 1, 1]), .inScope (sub (codeOf Tryd.f53) [0])]) (st' := ⟨mkT 48 [(0, .p 0 0), (1, .sv 2 a (List.length bs - 16 * q)), (4, .ex (.int .i64 (↑n : Int))), (14, .ex (.int .i64 (↑n : Int))), (15, .ex (.int .i64 0))], [(0, .mix (.p 1 0 :: List.map .ex (ar8 16 V))), (1, .view Tb), (2, .view (List.map (Value.int .u8) bs))], 3⟩) (by kernel_rfl) (by kernel_rfl) ?_
    refine AG.re 0 (.mix (stV (xon V bs q 0))) (by kernel_rfl) ?_
    refine AG.indE (α := {i : Nat // i ≤ n}) (fun x => n - x.1)
      (fun x => ⟨mkT 48 [(0, .p 0 0), (1, .sv 2 a (bs.length - 16 * q)), (4, .ex (.int .i64 (n : Int))), (14, .ex (.int .i64 (n : Int))), (15, .ex (.int .i64 (x.1 : Int)))], [(0, .mix (stV (xon V bs q x.1))), (1, .view Tb), (2, .view (List.map (Value.int IntKind.u8) bs))], 3⟩) ⟨0, by omega⟩ (by kernel_rfl) ?_
    rintro ⟨i, hi⟩ ih2
    simp only at hi ih2 ⊢
    obtain ⟨f, hf⟩ : ∃ f, f = xon V bs q i := ⟨_, rfl⟩
    rw [← hf]
    refine AG.rk 3 [0, 1, 4, 14, 15, 16] [0, 1, 2] 3 (todo' := [.code (sub (codeOf Tryd.f53) [0, 1, 1, 1, 0, 1, 0, 1, 0, 0, 1, 0]), .code (sub (codeOf Tryd.f53) [0, 1, 1, 1, 0, 1, 0, 1, 0, 0, 1, 1]), .inLoop (sub (codeOf Tryd.f53) [0, 1, 1, 1, 0, 1, 0, 1, 0, 0]), .inBlock 0, .code (sub (codeOf Tryd.f53) [0, 1, 1, 1, 0, 1, 1]), .inScope (sub (codeOf Tryd.f53) [0])]) (st' := ⟨mkT 48 [(0, .p 0 0), (1, .sv 2 a (List.length bs - 16 * q)), (4, .ex (.int .i64 (↑n : Int))), (14, .ex (.int .i64 (↑n : Int))), (15, .ex (.int .i64 (↑i : Int))), (16, .ex (.bool (decide ((↑i : Int) < (↑n : Int)))))], [(0, .mix (.p 1 0 :: List.map .ex (ar8 16 f))), (1, .view Tb), (2, .view (List.map (Value.int .u8) bs))], 3⟩) (by kernel_rfl) (by kernel_rfl) ?_
    refine AG.cond (b := decide ((↑i : Int) < (↑n : Int))) (by kernel_rfl) (fun hc => ?_) (fun hc => ?_)
    · have hi' : i < n := by simp at hc; omega
      clear hc
      have e5 : IntKind.i64.wrap ((i : Int) + 1) = ((i + 1 : Nat) : Int) := by rw [wrap64_id _ (by omega) (by omega)]; omega
      have r1 : ([AV.p 1 0, AV.ex (.int .u8 (f 0)), AV.ex (.int .u8 (f 1)), AV.ex (.int .u8 (f 2)), AV.ex (.int .u8 (f 3)), AV.ex (.int .u8 (f 4)), AV.ex (.int .u8 (f 5)), AV.ex (.int .u8 (f 6)), AV.ex (.int .u8 (f 7)), AV.ex (.int .u8 (f 8)), AV.ex (.int .u8 (f 9)), AV.ex (.int .u8 (f 10)), AV.ex (.int .u8 (f 11)), AV.ex (.int .u8 (f 12)), AV.ex (.int .u8 (f 13)), AV.ex (.int .u8 (f 14)), AV.ex (.int .u8 (f 15))]).getD (1 + (i : Int).toNat * 1) .j = .ex (.int .u8 (V i)) := by
        have := getD_stV f (i : Int) (by omega) (by omega)
        rw [Int.toNat_natCast] at this
        rw [Int.toNat_natCast]
        refine this.trans ?_
        rw [hf]; unfold xon; rw [if_neg (by omega)]
      have r1' : (AV.p 1 0 :: List.map AV.ex (ar8 16 f)).getD (1 + (i : Int).toNat * 1) .j = .ex (.int .u8 (V i)) := r1
      have r2 : (List.map (Value.int .u8) bs).getD (a + (i : Int).toNat * 1) undef = .int .u8 (bAt bs ((16 * q + i : Nat) : Int)) := by
        have := map_get bs ((a + i : Nat) : Int) (by omega) (by omega) .u8 undef
        rw [Int.toNat_natCast] at this
        rw [Int.toNat_natCast, Nat.mul_one, this, haq]
      have eP : putAt ([AV.p 1 0, AV.ex (.int .u8 (f 0)), AV.ex (.int .u8 (f 1)), AV.ex (.int .u8 (f 2)), AV.ex (.int .u8 (f 3)), AV.ex (.int .u8 (f 4)), AV.ex (.int .u8 (f 5)), AV.ex (.int .u8 (f 6)), AV.ex (.int .u8 (f 7)), AV.ex (.int .u8 (f 8)), AV.ex (.int .u8 (f 9)), AV.ex (.int .u8 (f 10)), AV.ex (.int .u8 (f 11)), AV.ex (.int .u8 (f 12)), AV.ex (.int .u8 (f 13)), AV.ex (.int .u8 (f 14)), AV.ex (.int .u8 (f 15))]) (1 + (i : Int).toNat * 1) [AV.ex (.int .u8 (xor8 (V i) (bAt bs ((16 * q + i : Nat) : Int))))] = stV (xon V bs q (i + 1)) := by
        refine (put_stV f (i : Int) (by omega) (by omega) _).trans ?_
        rw [Int.toNat_natCast, hf]
        congr 1
        funext j
        unfold upd xon
        by_cases h : j = i
        · subst h; simp
        · rw [if_neg h]
          by_cases h2 : j < i
          · rw [if_pos h2, if_pos (by omega)]
          · rw [if_neg h2, if_neg (by omega)]
      have eP' : putAt (AV.p 1 0 :: List.map AV.ex (ar8 16 f)) (1 + (i : Int).toNat * 1) [AV.ex (.int .u8 (xor8 (V i) (bAt bs ((16 * q + i : Nat) : Int))))] = stV (xon V bs q (i + 1)) := eP
      refine AG.rk 5 [0, 1, 4, 5, 14, 15] [0, 1, 2] 3 (todo' := [.code (sub (codeOf Tryd.f53) [0, 1, 1, 1, 0, 1, 0, 1, 0, 0, 1, 1, 0, 0, 1]), .inBlock 1, .code (sub (codeOf Tryd.f53) [0, 1, 1, 1, 0, 1, 0, 1, 0, 0, 1, 1, 1]), .inLoop (sub (codeOf Tryd.f53) [0, 1, 1, 1, 0, 1, 0, 1, 0, 0]), .inBlock 0, .code (sub (codeOf Tryd.f53) [0, 1, 1, 1, 0, 1, 1]), .inScope (sub (codeOf Tryd.f53) [0])]) (st' := ⟨mkT 48 [(0, .p 0 0), (1, .sv 2 a (List.length bs - 16 * q)), (4, .ex (.int .i64 (↑n : Int))), (5, .ex (.int .i64 (↑i : Int))), (14, .ex (.int .i64 (↑n : Int))), (15, .ex (.int .i64 (↑i : Int)))], [(0, .mix (.p 1 0 :: List.map .ex (ar8 16 f))), (1, .view Tb), (2, .view (List.map (Value.int .u8) bs))], 3⟩) (by kernel_rfl) (by kernel_rfl) ?_
      refine AG.gk [4, 8, 13, 14] [(5, { val := .ex (.int .u8 (V i)) }), (9, { val := .ex (.int .u8 (bAt bs (↑(16 * q + i) : Int))) })] [0, 1, 4, 14, 15] [0, 1, 2] 3 (st' := ⟨mkT 48 [(0, .p 0 0), (1, .sv 2 a (List.length bs - 16 * q)), (4, .ex (.int .i64 (↑n : Int))), (14, .ex (.int .i64 (↑n : Int))), (15, .ex (.int .i64 (↑i : Int)))], [(0, .mix (putAt (.p 1 0 :: List.map .ex (ar8 16 f)) (1 + Int.toNat (↑i : Int) * 1) [.ex (.int .u8 (xor8 (V i) (bAt bs (↑(16 * q + i) : Int))))])), (1, .view Tb), (2, .view (List.map (Value.int .u8) bs))], 3⟩) (obs := [Ob.ix (↑i : Int) 16, Ob.eq (List.getD (.p 1 0 :: List.map .ex (ar8 16 f)) (1 + Int.toNat (↑i : Int) * 1) .j) (.ex (.int .u8 (V i))), Ob.le (1 + Int.toNat (↑i : Int) * 1 + 1) 17, Ob.ix (↑i : Int) (List.length bs - 16 * q), Ob.eq (.ex (List.getD (List.map (Value.int .u8) bs) (a + Int.toNat (↑i : Int) * 1) undef)) (.ex (.int .u8 (bAt bs (↑(16 * q + i) : Int)))), Ob.le (a + Int.toNat (↑i : Int) * 1 + 1) (List.length (List.map (Value.int .u8) bs)), Ob.ix (↑i : Int) 16, Ob.le (1 + Int.toNat (↑i : Int) * 1 + 1) 17, Ob.le 1 1, Ob.le 1 1, Ob.one [Value.int .u8 (xor8 (V i) (bAt bs (↑(16 * q + i) : Int)))]]) (by kernel_rfl) (keepOk_mk (by kernel_rfl) ⟨(mixPut (by kernel_rfl) (by kernel_rfl)), (by kernel_rfl), (by kernel_rfl), trivial⟩) ⟨(by (simp only [Ob.holds]; omega)), (by simp only [Ob.holds, r1']), (by (simp only [Ob.holds]; omega)), (by (simp only [Ob.holds]; omega)), (by simp only [Ob.holds, r2]), (by (simp [Ob.holds]; omega)), (by (simp only [Ob.holds]; omega)), (by (simp only [Ob.holds]; omega)), (Ob.holds_of_dec (by kernel_rfl)), (Ob.holds_of_dec (by kernel_rfl)), (by rfl), trivial⟩ ?_
      refine AG.rk 1 [0, 1, 4, 14, 15] [0, 1, 2] 3 (todo' := [.code (sub (codeOf Tryd.f53) [0, 1, 1, 1, 0, 1, 0, 1, 0, 0, 1, 1, 1]), .inLoop (sub (codeOf Tryd.f53) [0, 1, 1, 1, 0, 1, 0, 1, 0, 0]), .inBlock 0, .code (sub (codeOf Tryd.f53) [0, 1, 1, 1, 0, 1, 1]), .inScope (sub (codeOf Tryd.f53) [0])]) (st' := ⟨mkT 48 [(0, .p 0 0), (1, .sv 2 a (List.length bs - 16 * q)), (4, .ex (.int .i64 (↑n : Int))), (14, .ex (.int .i64 (↑n : Int))), (15, .ex (.int .i64 (↑i : Int)))], [(0, .mix (putAt (.p 1 0 :: List.map .ex (ar8 16 f)) (1 + Int.toNat (↑i : Int) * 1) [.ex (.int .u8 (xor8 (V i) (bAt bs (↑(16 * q + i) : Int))))])), (1, .view Tb), (2, .view (List.map (Value.int .u8) bs))], 3⟩) (by kernel_rfl) (keepOk_mk (by kernel_rfl) ⟨(mixPut (by kernel_rfl) (by kernel_rfl)), (by kernel_rfl), (by kernel_rfl), trivial⟩) ?_
      refine AG.gk [] [(0, { val := .ex (.int .i64 (↑(i + 1) : Int)) })] [0, 1, 4, 14, 15] [0, 1, 2] 3 (st' := ⟨mkT 48 [(0, .p 0 0), (1, .sv 2 a (List.length bs - 16 * q)), (4, .ex (.int .i64 (↑n : Int))), (14, .ex (.int .i64 (↑n : Int))), (15, .ex (.int .i64 (↑(i + 1) : Int)))], [(0, .mix (putAt (.p 1 0 :: List.map .ex (ar8 16 f)) (1 + Int.toNat (↑i : Int) * 1) [.ex (.int .u8 (xor8 (V i) (bAt bs (↑(16 * q + i) : Int))))])), (1, .view Tb), (2, .view (List.map (Value.int .u8) bs))], 3⟩) (obs := [Ob.eq (.ex (.int .i64 (IntKind.wrap .i64 ((↑i : Int) + 1)))) (.ex (.int .i64 (↑(i + 1) : Int)))]) (by kernel_rfl) (keepOk_mk (by kernel_rfl) ⟨(mixPut (by kernel_rfl) (by kernel_rfl)), (by kernel_rfl), (by kernel_rfl), trivial⟩) ⟨(by simp only [Ob.holds, e5]), trivial⟩ ?_
      refine AG.rk 1 [0, 1, 4, 14, 15] [0, 1, 2] 3 (todo' := [.code (sub (codeOf Tryd.f53) [0, 1, 1, 1, 0, 1, 0, 1, 0, 0]), .inLoop (sub (codeOf Tryd.f53) [0, 1, 1, 1, 0, 1, 0, 1, 0, 0]), .inBlock 0, .code (sub (codeOf Tryd.f53) [0, 1, 1, 1, 0, 1, 1]), .inScope (sub (codeOf Tryd.f53) [0])]) (st' := ⟨mkT 48 [(0, .p 0 0), (1, .sv 2 a (List.length bs - 16 * q)), (4, .ex (.int .i64 (↑n : Int))), (14, .ex (.int .i64 (↑n : Int))), (15, .ex (.int .i64 (↑(i + 1) : Int)))], [(0, .mix (putAt (.p 1 0 :: List.map .ex (ar8 16 f)) (1 + Int.toNat (↑i : Int) * 1) [.ex (.int .u8 (xor8 (V i) (bAt bs (↑(16 * q + i) : Int))))])), (1, .view Tb), (2, .view (List.map (Value.int .u8) bs))], 3⟩) (by kernel_rfl) (keepOk_mk (by kernel_rfl) ⟨(mixPut (by kernel_rfl) (by kernel_rfl)), (by kernel_rfl), (by kernel_rfl), trivial⟩) ?_
      first
        | rewrite [eP]
        | rewrite [eP']
      exact ih2 ⟨i + 1, hi'⟩ (by simp only; omega)
    · obtain rfl : i = n := by simp at hc; omega
      clear hc ih2
      have eX : stV (xon V bs q i) = stV (byt (onV h v bs q ^^^ el (fun i => bAt bs ((16 * q + i : Nat) : Int)))) := by
        unfold stV
        rw [ar8_congr (n := 16) (s := xon V bs q i) (t := byt (onV h v bs q ^^^ el (fun i => bAt bs ((16 * q + i : Nat) : Int)))) fun j hj => by rw [← hV]; exact xon_all _ bs h8 q i hn j hj]
      subst hf
      refine AG.re 0 (.mix (stV (xon V bs q i))) (by kernel_rfl) ?_
      rewrite [eX]
      have cD := hdot (onV h v bs q ^^^ el (fun i => bAt bs ((16 * q + i : Nat) : Int)))
      have eD : dot (onV h v bs q ^^^ el (fun i => bAt bs ((16 * q + i : Nat) : Int))) h = onV h v bs (q + 1) := rfl
      rw [eD] at cD
      generalize hY : onV h v bs q ^^^ el (fun i => bAt bs ((16 * q + i : Nat) : Int)) = Y at *
      generalize hZ : byt (onV h v bs (q + 1)) = Z at *
      refine AG.rk 2 [0, 1, 4] [0, 1, 2] 3 (todo' := [.code (sub (codeOf Tryd.f53) [0, 1, 1, 1, 0, 1, 1, 0]), .code (sub (codeOf Tryd.f53) [0, 1, 1, 1, 0, 1, 1, 1]), .inScope (sub (codeOf Tryd.f53) [0])]) (st' := ⟨mkT 48 [(0, .p 0 0), (1, .sv 2 a (List.length bs - 16 * q)), (4, .ex (.int .i64 (↑i : Int)))], [(0, .mix (.p 1 0 :: List.map .ex (ar8 16 (byt Y)))), (1, .view Tb), (2, .view (List.map (Value.int .u8) bs))], 3⟩) (by kernel_rfl) (by kernel_rfl) ?_
      refine AG.gk [] [(9, useR [(0, 1, 0)] 39 ({ val := .ex (.agg (List.toArray (ar8 16 Z))) }))] [0, 1, 4] [0, 1, 2] 3 (st' := ⟨mkT 48 [(0, .p 0 0), (1, .sv 2 a (List.length bs - 16 * q)), (4, .ex (.int .i64 (↑i : Int)))], [(0, .mix ([.p 1 0] ++ List.map .ex (ar8 16 Z))), (1, .view Tb), (2, .view (List.map (Value.int .u8) bs))], 3⟩) (obs := [Ob.call (fun g => List.lookup g []) 69 [.p 1 0, .ex (.agg { toList := ar8 16 (byt Y) })] [(1, .view Tb)] (useR [(0, 1, 0)] 39 { val := .ex (.agg (List.toArray (ar8 16 Z))) })]) (by kernel_rfl) (by kernel_rfl) ⟨(CallOK.at0 [(0, 1, 0)] 39 (cD ) (.cons (.p rfl) (.cons (.ex _) .nil)) (.cons rfl rfl ⟨_, rfl, (by exact cov_all _)⟩ .nil) (by kernel_rfl)), trivial⟩ ?_
      refine AG.rk 1 [0, 1, 4] [0, 1, 2] 3 (todo' := [.code (sub (codeOf Tryd.f53) [0, 1, 1, 1, 0, 1, 1, 1, 0]), .code (sub (codeOf Tryd.f53) [0, 1, 1, 1, 0, 1, 1, 1, 1]), .inScope (sub (codeOf Tryd.f53) [0])]) (st' := ⟨mkT 48 [(0, .p 0 0), (1, .sv 2 a (List.length bs - 16 * q)), (4, .ex (.int .i64 (↑i : Int)))], [(0, .mix ([.p 1 0] ++ List.map .ex (ar8 16 Z))), (1, .view Tb), (2, .view (List.map (Value.int .u8) bs))], 3⟩) (by kernel_rfl) (by kernel_rfl) ?_
      refine AG.gk [2] [] [0, 1] [0, 1, 2] 3 (st' := ⟨mkT 48 [(0, .p 0 0), (1, .sv 2 (a + Int.toNat (↑i : Int) * 1) (List.length bs - 16 * q - Int.toNat (↑i : Int)))], [(0, .mix ([.p 1 0] ++ List.map .ex (ar8 16 Z))), (1, .view Tb), (2, .view (List.map (Value.int .u8) bs))], 3⟩) (obs := [Ob.ix (↑(List.length bs - 16 * q) : Int) (List.length bs - 16 * q + 1), Ob.ix (↑i : Int) (List.length bs - 16 * q + 1)]) (by kernel_rfl) (by kernel_rfl) ⟨(by (simp only [Ob.holds]; omega)), (by (simp only [Ob.holds]; omega)), trivial⟩ ?_
      refine AG.rk 3 [0, 1] [0, 1, 2] 3 (todo' := [.code (sub (codeOf Tryd.f53) [0, 1, 1]), .inScope (sub (codeOf Tryd.f53) [0])]) (st' := ⟨mkT 48 [(0, .p 0 0), (1, .sv 2 (a + Int.toNat (↑i : Int) * 1) (List.length bs - 16 * q - Int.toNat (↑i : Int)))], [(0, .mix ([.p 1 0] ++ List.map .ex (ar8 16 Z))), (1, .view Tb), (2, .view (List.map (Value.int .u8) bs))], 3⟩) (by kernel_rfl) (by kernel_rfl) ?_
      refine AG.re 0 (.mix (stV Z)) (by kernel_rfl) ?_
      rewrite [Int.toNat_natCast, Nat.mul_one]
      have e1 : a + i = min (16 * (q + 1)) bs.length := by omega
      have e2 : bs.length - 16 * q - i = bs.length - 16 * (q + 1) := by omega
      have := ih ⟨q + 1, by omega⟩ (by simp only; omega)
      simp only at this
      rw [hZ] at this
      rewrite [e1, e2]
      exact this

  · have hq' : bs.length ≤ 16 * q := by simp at hc; omega
    have e : (bs.length + 15) / 16 = q := by omega
    clear hc ih
    rw [e]
    generalize byt (onV h v bs q) = V at *
    refine AG.rk 2 [] [0, 1, 2] 3 (todo' := []) (st' := ⟨mkT 48 [], [(0, .mix (.p 1 0 :: List.map .ex (ar8 16 V))), (1, .view Tb), (2, .view (List.map (Value.int .u8) bs))], 3⟩) (by kernel_rfl) (by kernel_rfl) ?_
    refine AG.fin ([]) Go.Proofs.Tryd.f53 fn53 (.inl rfl) (obs := []) (by kernel_rfl) trivial (by kernel_rfl) ⟨(by kernel_rfl), trivial⟩ (by kernel_rfl)
end Go.Proofs.YtdfbcdgneboilaaDoor.Ab
