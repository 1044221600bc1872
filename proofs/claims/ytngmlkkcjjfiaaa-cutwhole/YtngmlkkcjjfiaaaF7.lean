/- Own: the laws CutBack and CutSides followed (no statement is proved here). -/
import Derived.Test.YtngmlkkcjjfiaaaF6
import Derived.KernelRfl
namespace Go.Proofs.Ytngmlkkcjjfiaaa.Ab
open Go.Proofs
set_option linter.unusedSimpArgs false
set_option linter.unusedVariables false
set_option maxRecDepth 4000
theorem fn8 : Try.prog.funcs[8]? = some Try.f8 := by kernel_rfl
theorem fn9 : Try.prog.funcs[9]? = some Try.f9 := by kernel_rfl
theorem bAt_rng' (n : Nat) (f : Nat → Int) (j : Nat) (h : j < n) : bAt ((List.range n).map f) (j : Int) = f j := by
  unfold bAt
  simp [h]
theorem ar8_bAt' (bs : List Int) : ar8 bs.length (fun j => bAt bs (j : Int)) = bs.map (Value.int .u8) := by
  symm
  refine eq_ar8 (by simp) fun i hi => ?_
  have hm := map_get bs (i : Int) (by omega) (by omega) .u8 undef
  rw [Int.toNat_natCast, List.getD_eq_getElem?_getD] at hm
  rw [List.getElem?_eq_getElem (by simp; omega)] at hm ⊢
  simp only [Option.getD_some] at hm
  rw [hm]
theorem jn_hv (bs : List Int) (h8 : All8 bs) (k : Nat) (hk : k < bs.length) : jnb ((List.range (2 * bs.length)).map (hvb bs)) k = bAt bs (k : Int) := by
  unfold jnb
  rw [bAt_rng' _ _ _ (by omega), bAt_rng' _ _ _ (by omega)]
  unfold hvb
  have h := h8.at (k : Int)
  have h1 := h.1
  have h2 := h.2
  rw [if_pos (by omega), if_neg (by omega), show 2 * k / 2 = k by omega, show (2 * k + 1) / 2 = k by omega]
  omega
theorem back_ok (bs : List Int) (h8 : All8 bs) : CallOK Try.prog (fun _ => none) 8 [.sv 0 0 bs.length] [(0, .view (bs.map (Value.int .u8)))] { val := .ex (.bool true) } := by
  by_cases hl : bs.length ≤ 200
  case neg =>
    have g0 : decide ((bs.length : Int) > 200) = true := by simp; omega
    refine CallOK.from0 hmix Try.f8 1 fn8 (by kernel_rfl) (by kernel_rfl) (fun w ρ h1 h2 => ?_)
    refine AG.rk 4 [0] [0] 1 (todo' := [.code (sub (codeOf Try.f8) [1, 0, 0]), .code (sub (codeOf Try.f8) [1, 0, 1]), .code (sub (codeOf Try.f8) [1, 1])]) (st' := ⟨mkT 51 [(0, .sv 0 0 (List.length bs))], [(0, .view (List.map (Value.int .u8) bs))], 1⟩) (by kernel_rfl) (by kernel_rfl) ?_
    refine AG.gk [] [(2, { val := .ex (.bool true) })] [0, 9] [0] 1 (st' := ⟨mkT 51 [(0, .sv 0 0 (List.length bs)), (9, .ex (.bool true))], [(0, .view (List.map (Value.int .u8) bs))], 1⟩) (obs := [Ob.eq (.ex (.bool (decide ((↑(List.length bs) : Int) > 200)))) (.ex (.bool true))]) (by kernel_rfl) (by kernel_rfl) ⟨(by simp only [Ob.holds, g0]), trivial⟩ ?_
    refine AG.rk 3 [2] [0] 1 (todo' := [.code (sub (codeOf Try.f8) [1, 0, 1, 0, 1]), .code (sub (codeOf Try.f8) [1, 1])]) (st' := ⟨mkT 51 [(2, .ex (.bool true))], [(0, .view (List.map (Value.int .u8) bs))], 1⟩) (by kernel_rfl) (by kernel_rfl) ?_
    refine AG.fin ([.ex (.bool true)]) Go.Proofs.Try.f8 fn8 (.inr ⟨_, rfl⟩) (obs := []) (by kernel_rfl) trivial (by kernel_rfl) trivial (by kernel_rfl)
  have g0 : decide ((bs.length : Int) > 200) = false := by simp; omega
  obtain ⟨m, hm⟩ : ∃ m, m = 2 * bs.length := ⟨_, rfl⟩
  have e1 : IntKind.i64.wrap (2 * (bs.length : Int)) = (m : Int) := by rw [wrap64_id _ (by omega) (by omega)]; omega
  have c1 := halves_ok bs h8 (by omega) 0 m (by omega)
  rw [fb_lit0] at c1
  obtain ⟨H, hH⟩ : ∃ H, H = (List.range m).map (hvb bs) := ⟨_, rfl⟩
  have eH : ar8 m (fun j => hvb bs (0 + j)) = H.map (Value.int .u8) := by rw [hH, mapr8']; exact ar8_congr fun j _ => by rw [Nat.zero_add]
  rw [eH] at c1
  have hHl : H.length = m := by rw [hH]; simp
  have hH8 : All8 H := fun x hx => by
    rw [hH] at hx
    obtain ⟨j, _, rfl⟩ := List.mem_map.1 hx
    have := r8_hvb bs h8 j
    unfold R8; omega
  have c2 := join_ok H hH8 (by omega) bs.length (by omega)
  rw [ar8_congr (t := fun k => bAt bs (k : Int)) fun k hk => by rw [jn_all, hH, hm]; exact jn_hv bs h8 k hk, ar8_bAt', hHl] at c2
  have eX : ∀ x : List UInt8, (x == x) = true := fun x => beq_self_eq_true x
  have eT : List.take bs.length (List.drop 0 (List.map (Value.int .u8) bs)) = List.map (Value.int .u8) bs := by rw [List.drop_zero]; exact List.take_of_length_le (by simp)
  have eN : (!true) = false := rfl
  have eI : ((m : Int) != (m : Int)) = false := by simp
  have hHr : ∀ i : Nat, bAt H (i : Int) ≤ 15 := fun i => by
    by_cases hi : i < m
    · rw [hH, bAt_rng' _ _ _ hi]; exact (r8_hvb bs h8 i).2
    · have : bAt H (i : Int) = 0 := by unfold bAt; simp; omega
      rw [this]; decide
  generalize hy : fb m = y at *
  refine CallOK.from0 hmix Try.f8 1 fn8 (by kernel_rfl) (by kernel_rfl) (fun w ρ h1 h2 => ?_)
  refine AG.rk 4 [0] [0] 1 (todo' := [.code (sub (codeOf Try.f8) [1, 0, 0]), .code (sub (codeOf Try.f8) [1, 0, 1]), .code (sub (codeOf Try.f8) [1, 1])]) (st' := ⟨mkT 51 [(0, .sv 0 0 (List.length bs))], [(0, .view (List.map (Value.int .u8) bs))], 1⟩) (by kernel_rfl) (by kernel_rfl) ?_
  refine AG.gk [] [(2, { val := .ex (.bool false) })] [0, 9] [0] 1 (st' := ⟨mkT 51 [(0, .sv 0 0 (List.length bs)), (9, .ex (.bool false))], [(0, .view (List.map (Value.int .u8) bs))], 1⟩) (obs := [Ob.eq (.ex (.bool (decide ((↑(List.length bs) : Int) > 200)))) (.ex (.bool false))]) (by kernel_rfl) (by kernel_rfl) ⟨(by simp only [Ob.holds, g0]), trivial⟩ ?_
  refine AG.rk 3 [0] [0] 1 (todo' := [.code (sub (codeOf Try.f8) [1, 1, 0]), .code (sub (codeOf Try.f8) [1, 1, 1])]) (st' := ⟨mkT 51 [(0, .sv 0 0 (List.length bs))], [(0, .view (List.map (Value.int .u8) bs))], 1⟩) (by kernel_rfl) (by kernel_rfl) ?_
  refine AG.gk [] [(2, { val := .ex (.int .i64 (↑m : Int)) }), (3, { val := .ex (.float FloatKind.f64 y) })] [0, 3] [0] 1 (st' := ⟨mkT 51 [(0, .sv 0 0 (List.length bs)), (3, .ex (.float FloatKind.f64 y))], [(0, .view (List.map (Value.int .u8) bs))], 1⟩) (obs := [Ob.eq (.ex (.int .i64 (IntKind.wrap .i64 (2 * (↑(List.length bs) : Int))))) (.ex (.int .i64 (↑m : Int))), Ob.eq (.ex (.float FloatKind.f64 (fb m))) (.ex (.float FloatKind.f64 y))]) (by kernel_rfl) (by kernel_rfl) ⟨(by simp only [Ob.holds, e1]), (by simp only [Ob.holds, hy]), trivial⟩ ?_
  refine AG.rk 1 [0, 3] [0] 1 (todo' := [.code (sub (codeOf Try.f8) [1, 1, 1, 0]), .code (sub (codeOf Try.f8) [1, 1, 1, 1])]) (st' := ⟨mkT 51 [(0, .sv 0 0 (List.length bs)), (3, .ex (.float FloatKind.f64 y))], [(0, .view (List.map (Value.int .u8) bs))], 1⟩) (by kernel_rfl) (by kernel_rfl) ?_
  refine AG.gk [] [(3, useR [(0, 0, 0)] 13 ({ val := .tup [.s 1 0 m m, .ex (.bool true)], upd := [(1, .own (List.map (Value.int .u8) H))], nks := [1] }))] [0, 4, 5] [0, 13] 14 (st' := ⟨mkT 51 [(0, .sv 0 0 (List.length bs)), (4, .s 13 0 m m), (5, .ex (.bool true))], [(0, .view (List.map (Value.int .u8) bs)), (13, .own (List.map (Value.int .u8) H))], 14⟩) (obs := [Ob.call (fun g => List.lookup g []) 15 [.sv 0 0 (List.length bs), .ex (.complex FloatKind.f64 0 y)] [(0, .view (List.map (Value.int .u8) bs))] (useR [(0, 0, 0)] 13 { val := .tup [.s 1 0 m m, .ex (.bool true)], upd := [(1, .own (List.map (Value.int .u8) H))], nks := [1] })]) (by kernel_rfl) (by kernel_rfl) ⟨(CallOK.at0 [(0, 0, 0)] 13 (c1 ) (.cons (.vv rfl) (.cons (.ex _) .nil)) (.cons rfl rfl ⟨_, rfl, (by exact cov_all _)⟩ .nil) (by kernel_rfl)), trivial⟩ ?_
  refine AG.rk 2 [0, 4, 5] [0, 13] 14 (todo' := [.code (sub (codeOf Try.f8) [1, 1, 1, 1, 0, 0]), .code (sub (codeOf Try.f8) [1, 1, 1, 1, 0, 1]), .code (sub (codeOf Try.f8) [1, 1, 1, 1, 1])]) (st' := ⟨mkT 51 [(0, .sv 0 0 (List.length bs)), (4, .s 13 0 m m), (5, .ex (.bool true))], [(0, .view (List.map (Value.int .u8) bs)), (13, .own (List.map (Value.int .u8) H))], 14⟩) (by kernel_rfl) (by kernel_rfl) ?_
  refine AG.gk [] [(7, { val := .ex (.int .i64 (↑m : Int)) }), (8, { val := .ex (.bool false) }), (12, useR [(0, 13, 0)] 62 ({ val := .s 1 0 (List.length bs) (List.length bs), upd := [(1, .own (List.map (Value.int .u8) bs))], nks := [1] })), (13, { val := .ex (.string (strOf (List.map (Value.int .u8) bs))) }), (15, { val := .ex (.string (strOf (List.map (Value.int .u8) bs))) }), (16, { val := .ex (.bool false) })] [4, 38] [0, 13] 14 (st' := ⟨mkT 51 [(4, .s 13 0 m m), (38, .ex (.bool false))], [(0, .view (List.map (Value.int .u8) bs)), (13, .own (List.map (Value.int .u8) H))], 14⟩) (obs := [Ob.eq (.ex (.int .i64 (IntKind.wrap .i64 (2 * (↑(List.length bs) : Int))))) (.ex (.int .i64 (↑m : Int))), Ob.eq (.ex (.bool ((↑m : Int) != (↑m : Int)))) (.ex (.bool false)), Ob.call (fun g => List.lookup g []) 18 [.s 13 0 m m] [(13, .own (List.map (Value.int .u8) H))] (useR [(0, 13, 0)] 62 { val := .s 1 0 (List.length bs) (List.length bs), upd := [(1, .own (List.map (Value.int .u8) bs))], nks := [1] }), Ob.eq (.ex (.string (strOf (List.take (List.length bs) (List.drop 0 (List.map (Value.int .u8) bs)))))) (.ex (.string (strOf (List.map (Value.int .u8) bs)))), Ob.u8 (List.take (List.length bs) (List.drop 0 (List.map (Value.int .u8) bs))), Ob.le (0 + List.length bs) (List.length (List.map (Value.int .u8) bs)), Ob.eq (.ex (.string (strOf (List.take (List.length bs) (List.drop 0 (List.map (Value.int .u8) bs)))))) (.ex (.string (strOf (List.map (Value.int .u8) bs)))), Ob.u8 (List.take (List.length bs) (List.drop 0 (List.map (Value.int .u8) bs))), Ob.le (0 + List.length bs) (List.length (List.map (Value.int .u8) bs)), Ob.eq (.ex (.bool !ByteArray.toList (strOf (List.map (Value.int .u8) bs)) == ByteArray.toList (strOf (List.map (Value.int .u8) bs)))) (.ex (.bool false))]) (by kernel_rfl) (by kernel_rfl) ⟨(by simp only [Ob.holds, e1]), (by simp only [Ob.holds, eI]), (CallOK.at0 [(0, 13, 0)] 62 (c2 ) (.cons (.vs rfl (by first | omega | (simp; done) | (simp; omega))) .nil) (.cons rfl rfl ⟨_, rfl, (by exact cov_all _)⟩ .nil) (by kernel_rfl)), (by simp only [Ob.holds, eT]), (by exact u8_take (u8_drop (u8_map _) _) _), (by (simp [Ob.holds]; done)), (by simp only [Ob.holds, eT]), (by exact u8_take (u8_drop (u8_map _) _) _), (by (simp [Ob.holds]; done)), (by simp only [Ob.holds, g0, e1, hy, eT, eX, eN, eI]), trivial⟩ ?_
  refine AG.rk 6 [4, 6] [0, 13] 14 (todo' := [.code (sub (codeOf Try.f8) [1, 1, 1, 1, 1, 0, 1, 0]), .inBlock 0, .code (sub (codeOf Try.f8) [1, 1, 1, 1, 1, 1])]) (st' := ⟨mkT 51 [(4, .s 13 0 m m), (6, .ex (.int .i64 0))], [(0, .view (List.map (Value.int .u8) bs)), (13, .own (List.map (Value.int .u8) H))], 14⟩) (by kernel_rfl) (by kernel_rfl) ?_
  refine AG.rk 1 [4, 6] [0, 13] 14 (todo' := [.code (sub (codeOf Try.f8) [1, 1, 1, 1, 1, 0, 1, 0, 0]), .inLoop (sub (codeOf Try.f8) [1, 1, 1, 1, 1, 0, 1, 0, 0]), .inBlock 0, .code (sub (codeOf Try.f8) [1, 1, 1, 1, 1, 1])]) (st' := ⟨mkT 51 [(4, .s 13 0 m m), (6, .ex (.int .i64 0))], [(0, .view (List.map (Value.int .u8) bs)), (13, .own (List.map (Value.int .u8) H))], 14⟩) (by kernel_rfl) (by kernel_rfl) ?_
  refine AG.indE (α := {x : Nat // x ≤ m}) (fun x => m - x.1)
    (fun x => ⟨mkT 51 [(4, .s 13 0 m m), (6, .ex (.int .i64 (x.1 : Int)))], [(0, .view (List.map (Value.int .u8) bs)), (13, .own (List.map (Value.int .u8) H))], 14⟩) ⟨0, by omega⟩ (by kernel_rfl) ?_
  rintro ⟨i, hi⟩ ih
  simp only at hi ih ⊢
  refine AG.rk 3 [4, 6, 42] [0, 13] 14 (todo' := [.code (sub (codeOf Try.f8) [1, 1, 1, 1, 1, 0, 1, 0, 0, 0, 1]), .code (sub (codeOf Try.f8) [1, 1, 1, 1, 1, 0, 1, 0, 0, 1]), .inLoop (sub (codeOf Try.f8) [1, 1, 1, 1, 1, 0, 1, 0, 0]), .inBlock 0, .code (sub (codeOf Try.f8) [1, 1, 1, 1, 1, 1])]) (st' := ⟨mkT 51 [(4, .s 13 0 m m), (6, .ex (.int .i64 (↑i : Int))), (42, .ex (.bool (decide ((↑i : Int) < (↑m : Int)))))], [(0, .view (List.map (Value.int .u8) bs)), (13, .own (List.map (Value.int .u8) H))], 14⟩) (by kernel_rfl) (by kernel_rfl) ?_
  refine AG.cond (b := decide ((↑i : Int) < (↑m : Int))) (by kernel_rfl) (fun hc => ?_) (fun hc => ?_)
  · have hi' : i < m := by simp at hc; omega
    clear hc
    have ea : (List.map (Value.int .u8) H).getD (0 + (i : Int).toNat * 1) undef = .int .u8 (bAt H (i : Int)) := by rw [Nat.zero_add, Nat.mul_one]; exact map_get H _ (by omega) (by omega) _ _
    have g1 : decide (bAt H (i : Int) > 15) = false := by have := hHr i; simp; omega
    have e5 : IntKind.i64.wrap ((i : Int) + 1) = ((i + 1 : Nat) : Int) := by rw [wrap64_id _ (by omega) (by omega)]; omega
    have hHl' : (List.map (Value.int .u8) H).length = m := by rw [List.length_map]; exact hHl
    have ih1 := ih ⟨i + 1, hi'⟩ (by simp only; omega)
    simp only at ih1
    refine AG.rk 4 [4, 6] [0, 13] 14 (todo' := [.code (sub (codeOf Try.f8) [1, 1, 1, 1, 1, 0, 1, 0, 0, 1, 0, 0, 0]), .code (sub (codeOf Try.f8) [1, 1, 1, 1, 1, 0, 1, 0, 0, 1, 0, 0, 1]), .inBlock 1, .code (sub (codeOf Try.f8) [1, 1, 1, 1, 1, 0, 1, 0, 0, 1, 1]), .inLoop (sub (codeOf Try.f8) [1, 1, 1, 1, 1, 0, 1, 0, 0]), .inBlock 0, .code (sub (codeOf Try.f8) [1, 1, 1, 1, 1, 1])]) (st' := ⟨mkT 51 [(4, .s 13 0 m m), (6, .ex (.int .i64 (↑i : Int)))], [(0, .view (List.map (Value.int .u8) bs)), (13, .own (List.map (Value.int .u8) H))], 14⟩) (by kernel_rfl) (by kernel_rfl) ?_
    refine AG.gk [2] [(3, { val := .ex (.int .u8 (bAt H (↑i : Int))) }), (4, { val := .ex (.bool false) })] [4, 6, 49] [0, 13] 14 (st' := ⟨mkT 51 [(4, .s 13 0 m m), (6, .ex (.int .i64 (↑i : Int))), (49, .ex (.bool false))], [(0, .view (List.map (Value.int .u8) bs)), (13, .own (List.map (Value.int .u8) H))], 14⟩) (obs := [Ob.ix (↑i : Int) m, Ob.eq (.ex (List.getD (List.map (Value.int .u8) H) (0 + Int.toNat (↑i : Int) * 1) undef)) (.ex (.int .u8 (bAt H (↑i : Int)))), Ob.le (0 + Int.toNat (↑i : Int) * 1 + 1) (List.length (List.map (Value.int .u8) H)), Ob.eq (.ex (.bool (decide (bAt H (↑i : Int) > 15)))) (.ex (.bool false))]) (by kernel_rfl) (by kernel_rfl) ⟨(by (simp only [Ob.holds]; omega)), (by simp only [Ob.holds, ea]), (by (simp only [Ob.holds]; omega)), (by simp only [Ob.holds, g1]), trivial⟩ ?_
    refine AG.rk 5 [4, 6] [0, 13] 14 (todo' := [.code (sub (codeOf Try.f8) [1, 1, 1, 1, 1, 0, 1, 0, 0]), .inLoop (sub (codeOf Try.f8) [1, 1, 1, 1, 1, 0, 1, 0, 0]), .inBlock 0, .code (sub (codeOf Try.f8) [1, 1, 1, 1, 1, 1])]) (st' := ⟨mkT 51 [(4, .s 13 0 m m), (6, .ex (.int .i64 (IntKind.wrap .i64 ((↑i : Int) + 1))))], [(0, .view (List.map (Value.int .u8) bs)), (13, .own (List.map (Value.int .u8) H))], 14⟩) (by kernel_rfl) (by kernel_rfl) ?_
    rewrite [e5]
    exact ih1
  · clear hc ih
    refine AG.rk 2 [] [0] 1 (todo' := [.code (sub (codeOf Try.f8) [1, 1, 1, 1, 1, 1, 0]), .code (sub (codeOf Try.f8) [1, 0, 1, 0, 1])]) (st' := ⟨mkT 51 [], [(0, .view (List.map (Value.int .u8) bs))], 1⟩) (by kernel_rfl) (by kernel_rfl) ?_
    refine AG.gk [] [(0, { val := .ex (.bool true) })] [2] [0] 1 (st' := ⟨mkT 51 [(2, .ex (.bool true))], [(0, .view (List.map (Value.int .u8) bs))], 1⟩) (obs := [Ob.call (fun g => List.lookup g []) 13 [] [] { val := .ex (.bool true) }]) (by kernel_rfl) (by kernel_rfl) ⟨((Go.Proofs.Ytngmlkkcjjfiaaa.Ab.awake_ok ).gl), trivial⟩ ?_
    refine AG.fin ([.ex (.bool true)]) Go.Proofs.Try.f8 fn8 (.inr ⟨_, rfl⟩) (obs := []) (by kernel_rfl) trivial (by kernel_rfl) trivial (by kernel_rfl)
end Go.Proofs.Ytngmlkkcjjfiaaa.Ab
