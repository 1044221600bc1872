/- Own: rows of a tweak and a message, and their hash (no statement is proved here). -/
import Derived.Test.YtdfbcdgneboilaaDoorV3
import Derived.KernelRfl
namespace Go.Proofs.YtdfbcdgneboilaaDoor.Ab
open Go.Proofs
set_option linter.unusedSimpArgs false
set_option linter.unusedVariables false
theorem mapr (n : Nat) (f : Nat → Int) : ((List.range n).map f).map (Value.int .u8) = ar8 n f := by rw [List.map_map]; rfl
/-- A row, and noughts to whole blocks. -/
def padL (t : List Int) : List Int := (List.range (up16 t.length)).map (fun j : Nat => bAt t (j : Int))
/-- A row, a byte 1, and noughts to whole blocks. -/
def markL (m : List Int) : List Int := (List.range (up16 (m.length + 1))).map (fun j : Nat => bAt (m ++ [1]) (j : Int))
def encL (t m : List Int) : List Int := (List.range 16).map (lenB t.length (if m.length % 16 = 0 then 2 else 3)) ++ padL t ++ (if m.length % 16 = 0 then m else markL m)
theorem len_padL (t : List Int) : (padL t).length = up16 t.length := by simp [padL]
theorem len_markL (t : List Int) : (markL t).length = up16 (t.length + 1) := by simp [markL]
theorem all8_rng (n : Nat) (f : Nat → Int) (h : ∀ j, R8 (f j)) : All8 ((List.range n).map f) := fun x hx => by
  obtain ⟨j, _, rfl⟩ := List.mem_map.1 hx
  exact h j
theorem all8_app {l m : List Int} (h : All8 l) (h' : All8 m) : All8 (l ++ m) := fun x hx => by
  rcases List.mem_append.1 hx with hx | hx
  · exact h x hx
  · exact h' x hx
theorem all8_one : All8 [1] := fun x hx => by simp at hx; subst hx; exact ⟨by decide, by decide⟩
theorem all8_encL (t m : List Int) (ht : All8 t) (hm : All8 m) : All8 (encL t m) := by
  unfold encL
  refine all8_app (all8_app (all8_rng _ _ fun j => r8_dig _ _) (all8_rng _ _ fun j => ht.at (j : Int))) ?_
  split
  · exact hm
  · exact all8_rng _ _ fun j => (all8_app hm all8_one).at (j : Int)
theorem encode_ok (t m : List Int) (ht : t.length ≤ 100000) (hm : m.length ≤ 100000) : CallOK Tryd.prog (fun _ => none) 35 [.sv 0 0 t.length, .sv 1 0 m.length] [(0, .view (t.map (Value.int .u8))), (1, .view (m.map (Value.int .u8)))] { val := .o 2 0 (encL t m).length, upd := [(2, .row ((encL t m).map (Value.int .u8)))], nks := [2] } := by
  have em : (m.length : Int).tmod 16 = ((m.length % 16 : Nat) : Int) := by rw [Int.tmod_eq_emod_of_nonneg (by omega)]; omega
  have c2 := padded_ok t (by omega)
  by_cases h : m.length % 16 = 0
  · have g : (((m.length % 16 : Nat) : Int) == 0) = true := by simp; omega
    have c1 := length_ok t.length (by omega) true
    have c3 := concat_ok ((List.range 16).map (lenB t.length 2)) (padL t) m (by simp) (by rw [len_padL]; unfold up16; simp; omega)
    rw [mapr, show (padL t).map (Value.int .u8) = ar8 (up16 t.length) (fun j => bAt t (j : Int)) from mapr _ _, len_padL, List.length_map, List.length_range] at c3
    have eE : encL t m = (List.range 16).map (lenB t.length 2) ++ padL t ++ m := by unfold encL; rw [if_pos h, if_pos h]
    rw [← eE] at c3
    generalize encL t m = X at *
    simp only [if_true] at c1
    generalize lenB t.length 2 = L at *
    generalize hU : up16 t.length = U at *
    generalize (fun j : Nat => bAt t (j : Int)) = F at *
    refine CallOK.from0 hmix Tryd.f35 2 fn35 (by kernel_rfl) (by kernel_rfl) (fun w ρ h1 h2 => ?_)
    refine AG.rk 3 [0, 1] [0, 1] 2 (todo' := [.code (sub (codeOf Tryd.f35) [1, 0]), .code (sub (codeOf Tryd.f35) [1, 1])]) (st' := ⟨mkT 25 [(0, .sv 0 0 (List.length t)), (1, .sv 1 0 (List.length m))], [(0, .view (List.map (Value.int .u8) t)), (1, .view (List.map (Value.int .u8) m))], 2⟩) (by kernel_rfl) (by kernel_rfl) ?_
    refine AG.gk [] [(2, { val := .ex (.int .i64 (↑(List.length m % 16) : Int)) }), (3, { val := .ex (.bool true) })] [0, 1, 5] [0, 1] 2 (st' := ⟨mkT 25 [(0, .sv 0 0 (List.length t)), (1, .sv 1 0 (List.length m)), (5, .ex (.bool true))], [(0, .view (List.map (Value.int .u8) t)), (1, .view (List.map (Value.int .u8) m))], 2⟩) (obs := [Ob.eq (.ex (.int .i64 (Int.tmod (↑(List.length m) : Int) 16))) (.ex (.int .i64 (↑(List.length m % 16) : Int))), Ob.le 1 16, Ob.eq (.ex (.bool ((↑(List.length m % 16) : Int) == 0))) (.ex (.bool true))]) (by kernel_rfl) (by kernel_rfl) ⟨(by simp only [Ob.holds, em]), (Ob.holds_of_dec (by kernel_rfl)), (by simp only [Ob.holds, g]), trivial⟩ ?_
    refine AG.rk 1 [0, 1, 5] [0, 1] 2 (todo' := [.code (sub (codeOf Tryd.f35) [1, 1, 0]), .code (sub (codeOf Tryd.f35) [1, 1, 1])]) (st' := ⟨mkT 25 [(0, .sv 0 0 (List.length t)), (1, .sv 1 0 (List.length m)), (5, .ex (.bool true))], [(0, .view (List.map (Value.int .u8) t)), (1, .view (List.map (Value.int .u8) m))], 2⟩) (by kernel_rfl) (by kernel_rfl) ?_
    refine AG.gk [] [(3, { val := .ex (.agg (List.toArray (ar8 16 L))) })] [0, 1, 5, 6] [0, 1, 18] 19 (st' := ⟨mkT 25 [(0, .sv 0 0 (List.length t)), (1, .sv 1 0 (List.length m)), (5, .ex (.bool true)), (6, .p 18 0)], [(0, .view (List.map (Value.int .u8) t)), (1, .view (List.map (Value.int .u8) m)), (18, .own (ar8 16 L))], 19⟩) (obs := [Ob.call (fun g => List.lookup g []) 55 [.ex (.int .i64 (↑(List.length t) : Int)), .ex (.bool true)] [] { val := .ex (.agg (List.toArray (ar8 16 L))) }]) (by kernel_rfl) (by kernel_rfl) ⟨((c1 ).gl), trivial⟩ ?_
    refine AG.rk 6 [0, 1, 6] [0, 1, 18] 19 (todo' := [.code (sub (codeOf Tryd.f35) [1, 1, 1, 1, 0]), .code (sub (codeOf Tryd.f35) [1, 1, 1, 1, 1])]) (st' := ⟨mkT 25 [(0, .sv 0 0 (List.length t)), (1, .sv 1 0 (List.length m)), (6, .p 18 0)], [(0, .view (List.map (Value.int .u8) t)), (1, .view (List.map (Value.int .u8) m)), (18, .own (ar8 16 L))], 19⟩) (by kernel_rfl) (by kernel_rfl) ?_
    refine AG.gk [] [(2, useR [(0, 0, 0)] 27 ({ val := .s 1 0 U U, upd := [(1, .own (ar8 U F))], nks := [1] })), (5, useR [(0, 35, 0), (1, 18, 0), (2, 27, 0), (3, 1, 0)] 39 ({ val := .o 4 0 (List.length X), upd := [(4, .row (List.map (Value.int .u8) X))], nks := [4] }))] [4] [0, 1, 39] 40 (st' := ⟨mkT 25 [(4, .o 39 0 (List.length X))], [(0, .view (List.map (Value.int .u8) t)), (1, .view (List.map (Value.int .u8) m)), (39, .row (List.map (Value.int .u8) X))], 40⟩) (obs := [Ob.call (fun g => List.lookup g []) 57 [.sv 0 0 (List.length t), .ex (.int .i64 16)] [(0, .view (List.map (Value.int .u8) t))] (useR [(0, 0, 0)] 27 { val := .s 1 0 U U, upd := [(1, .own (ar8 U F))], nks := [1] }), Ob.call (fun g => List.lookup g []) 46 [.s 35 0 3 3] [(35, .mix [.s 18 0 16 16, .s 27 0 U U, .sv 1 0 (List.length m)]), (18, .own (ar8 16 L)), (27, .own (ar8 U F)), (1, .view (List.map (Value.int .u8) m))] (useR [(0, 35, 0), (1, 18, 0), (2, 27, 0), (3, 1, 0)] 39 { val := .o 4 0 (List.length X), upd := [(4, .row (List.map (Value.int .u8) X))], nks := [4] })]) (by kernel_rfl) (by kernel_rfl) ⟨(CallOK.at0 [(0, 0, 0)] 27 (c2 ) (.cons (.vv rfl) (.cons (.ex _) .nil)) (.cons rfl rfl ⟨_, rfl, (by exact cov_all _)⟩ .nil) (by kernel_rfl)), (CallOK.at0 [(0, 35, 0), (1, 18, 0), (2, 27, 0), (3, 1, 0)] 39 (c3 ) (.cons (.vs rfl (by first | omega | (simp; done) | (simp; omega))) .nil) (.cons rfl rfl ⟨_, .inl rfl, rfl, (.cons (.vs rfl (by first | omega | (simp; done) | (simp; omega))) (.cons (.vs rfl (by first | omega | (simp; done) | (simp; omega))) (.cons (.vv rfl) .nil))), (by simp)⟩ (.cons rfl rfl ⟨_, rfl, (by exact cov_all _)⟩ (.cons rfl rfl ⟨_, rfl, (by exact cov_all _)⟩ (.cons rfl rfl ⟨_, rfl, (by exact cov_all _)⟩ .nil)))) (by kernel_rfl)), trivial⟩ ?_
    refine AG.ren 39 2 (st' := ⟨mkT 25 [(4, .o 2 0 (List.length X))], [(0, .view (List.map (Value.int .u8) t)), (1, .view (List.map (Value.int .u8) m)), (2, .row (List.map (Value.int .u8) X))], 40⟩) (by kernel_rfl) (by kernel_rfl) ?_
    refine AG.fin ([.o 2 0 (List.length X)]) Go.Proofs.Tryd.f35 fn35 (.inr ⟨_, rfl⟩) (obs := []) (by kernel_rfl) trivial (by kernel_rfl) ⟨(by kernel_rfl), trivial⟩ (by kernel_rfl)
  · have g : (((m.length % 16 : Nat) : Int) == 0) = false := by simp; omega
    have c1 := length_ok t.length (by omega) false
    have c4 := marked_ok m (by omega)
    have c3 := concat_ok ((List.range 16).map (lenB t.length 3)) (padL t) (markL m) (by simp) (by rw [len_padL, len_markL]; unfold up16; simp; omega)
    rw [mapr, show (padL t).map (Value.int .u8) = ar8 (up16 t.length) (fun j => bAt t (j : Int)) from mapr _ _, show (markL m).map (Value.int .u8) = ar8 (up16 (m.length + 1)) (fun j => bAt (m ++ [1]) (j : Int)) from mapr _ _, len_padL, len_markL, List.length_map, List.length_range] at c3
    have eE : encL t m = (List.range 16).map (lenB t.length 3) ++ padL t ++ markL m := by unfold encL; rw [if_neg h, if_neg h]
    rw [← eE] at c3
    generalize encL t m = X at *
    simp only [Bool.false_eq_true, if_false] at c1
    generalize lenB t.length 3 = L at *
    generalize hU : up16 t.length = U at *
    generalize hV : up16 (m.length + 1) = V at *
    generalize (fun j : Nat => bAt t (j : Int)) = F at *
    generalize (fun j : Nat => bAt (m ++ [1]) (j : Int)) = F' at *
    refine CallOK.from0 hmix Tryd.f35 2 fn35 (by kernel_rfl) (by kernel_rfl) (fun w ρ h1 h2 => ?_)
    refine AG.rk 3 [0, 1] [0, 1] 2 (todo' := [.code (sub (codeOf Tryd.f35) [1, 0]), .code (sub (codeOf Tryd.f35) [1, 1])]) (st' := ⟨mkT 25 [(0, .sv 0 0 (List.length t)), (1, .sv 1 0 (List.length m))], [(0, .view (List.map (Value.int .u8) t)), (1, .view (List.map (Value.int .u8) m))], 2⟩) (by kernel_rfl) (by kernel_rfl) ?_
    refine AG.gk [] [(2, { val := .ex (.int .i64 (↑(List.length m % 16) : Int)) }), (3, { val := .ex (.bool false) })] [0, 1, 5] [0, 1] 2 (st' := ⟨mkT 25 [(0, .sv 0 0 (List.length t)), (1, .sv 1 0 (List.length m)), (5, .ex (.bool false))], [(0, .view (List.map (Value.int .u8) t)), (1, .view (List.map (Value.int .u8) m))], 2⟩) (obs := [Ob.eq (.ex (.int .i64 (Int.tmod (↑(List.length m) : Int) 16))) (.ex (.int .i64 (↑(List.length m % 16) : Int))), Ob.le 1 16, Ob.eq (.ex (.bool ((↑(List.length m % 16) : Int) == 0))) (.ex (.bool false))]) (by kernel_rfl) (by kernel_rfl) ⟨(by simp only [Ob.holds, em]), (Ob.holds_of_dec (by kernel_rfl)), (by simp only [Ob.holds, g]), trivial⟩ ?_
    refine AG.rk 1 [0, 1, 5] [0, 1] 2 (todo' := [.code (sub (codeOf Tryd.f35) [1, 1, 0]), .code (sub (codeOf Tryd.f35) [1, 1, 1])]) (st' := ⟨mkT 25 [(0, .sv 0 0 (List.length t)), (1, .sv 1 0 (List.length m)), (5, .ex (.bool false))], [(0, .view (List.map (Value.int .u8) t)), (1, .view (List.map (Value.int .u8) m))], 2⟩) (by kernel_rfl) (by kernel_rfl) ?_
    refine AG.gk [] [(3, { val := .ex (.agg (List.toArray (ar8 16 L))) })] [0, 1, 5, 6] [0, 1, 18] 19 (st' := ⟨mkT 25 [(0, .sv 0 0 (List.length t)), (1, .sv 1 0 (List.length m)), (5, .ex (.bool false)), (6, .p 18 0)], [(0, .view (List.map (Value.int .u8) t)), (1, .view (List.map (Value.int .u8) m)), (18, .own (ar8 16 L))], 19⟩) (obs := [Ob.call (fun g => List.lookup g []) 55 [.ex (.int .i64 (↑(List.length t) : Int)), .ex (.bool false)] [] { val := .ex (.agg (List.toArray (ar8 16 L))) }]) (by kernel_rfl) (by kernel_rfl) ⟨((c1 ).gl), trivial⟩ ?_
    refine AG.rk 4 [0, 1, 6] [0, 1, 18] 19 (todo' := [.code (sub (codeOf Tryd.f35) [1, 1, 1, 0, 1, 0]), .code (sub (codeOf Tryd.f35) [1, 1, 1, 1])]) (st' := ⟨mkT 25 [(0, .sv 0 0 (List.length t)), (1, .sv 1 0 (List.length m)), (6, .p 18 0)], [(0, .view (List.map (Value.int .u8) t)), (1, .view (List.map (Value.int .u8) m)), (18, .own (ar8 16 L))], 19⟩) (by kernel_rfl) (by kernel_rfl) ?_
    refine AG.gk [] [(1, useR [(0, 1, 0)] 23 ({ val := .s 1 0 V V, upd := [(1, .own (ar8 V F'))], nks := [1] }))] [0, 1, 6] [0, 1, 18, 23] 24 (st' := ⟨mkT 25 [(0, .sv 0 0 (List.length t)), (1, .s 23 0 V V), (6, .p 18 0)], [(0, .view (List.map (Value.int .u8) t)), (1, .view (List.map (Value.int .u8) m)), (18, .own (ar8 16 L)), (23, .own (ar8 V F'))], 24⟩) (obs := [Ob.call (fun g => List.lookup g []) 56 [.sv 1 0 (List.length m), .ex (.int .u8 1), .ex (.int .i64 16)] [(1, .view (List.map (Value.int .u8) m))] (useR [(0, 1, 0)] 23 { val := .s 1 0 V V, upd := [(1, .own (ar8 V F'))], nks := [1] })]) (by kernel_rfl) (by kernel_rfl) ⟨(CallOK.at0 [(0, 1, 0)] 23 (c4 ) (.cons (.vv rfl) (.cons (.ex _) (.cons (.ex _) .nil))) (.cons rfl rfl ⟨_, rfl, (by exact cov_all _)⟩ .nil) (by kernel_rfl)), trivial⟩ ?_
    refine AG.rk 1 [0, 1, 6] [0, 1, 18, 23] 24 (todo' := [.code (sub (codeOf Tryd.f35) [1, 1, 1, 1, 0]), .code (sub (codeOf Tryd.f35) [1, 1, 1, 1, 1])]) (st' := ⟨mkT 25 [(0, .sv 0 0 (List.length t)), (1, .s 23 0 V V), (6, .p 18 0)], [(0, .view (List.map (Value.int .u8) t)), (1, .view (List.map (Value.int .u8) m)), (18, .own (ar8 16 L)), (23, .own (ar8 V F'))], 24⟩) (by kernel_rfl) (by kernel_rfl) ?_
    refine AG.gk [] [(2, useR [(0, 0, 0)] 32 ({ val := .s 1 0 U U, upd := [(1, .own (ar8 U F))], nks := [1] })), (5, useR [(0, 40, 0), (1, 18, 0), (2, 32, 0), (3, 23, 0)] 44 ({ val := .o 4 0 (List.length X), upd := [(4, .row (List.map (Value.int .u8) X))], nks := [4] }))] [4] [0, 1, 44] 45 (st' := ⟨mkT 25 [(4, .o 44 0 (List.length X))], [(0, .view (List.map (Value.int .u8) t)), (1, .view (List.map (Value.int .u8) m)), (44, .row (List.map (Value.int .u8) X))], 45⟩) (obs := [Ob.call (fun g => List.lookup g []) 57 [.sv 0 0 (List.length t), .ex (.int .i64 16)] [(0, .view (List.map (Value.int .u8) t))] (useR [(0, 0, 0)] 32 { val := .s 1 0 U U, upd := [(1, .own (ar8 U F))], nks := [1] }), Ob.call (fun g => List.lookup g []) 46 [.s 40 0 3 3] [(40, .mix [.s 18 0 16 16, .s 32 0 U U, .s 23 0 V V]), (18, .own (ar8 16 L)), (32, .own (ar8 U F)), (23, .own (ar8 V F'))] (useR [(0, 40, 0), (1, 18, 0), (2, 32, 0), (3, 23, 0)] 44 { val := .o 4 0 (List.length X), upd := [(4, .row (List.map (Value.int .u8) X))], nks := [4] })]) (by kernel_rfl) (by kernel_rfl) ⟨(CallOK.at0 [(0, 0, 0)] 32 (c2 ) (.cons (.vv rfl) (.cons (.ex _) .nil)) (.cons rfl rfl ⟨_, rfl, (by exact cov_all _)⟩ .nil) (by kernel_rfl)), (CallOK.at0 [(0, 40, 0), (1, 18, 0), (2, 32, 0), (3, 23, 0)] 44 (c3 ) (.cons (.vs rfl (by first | omega | (simp; done) | (simp; omega))) .nil) (.cons rfl rfl ⟨_, .inl rfl, rfl, (.cons (.vs rfl (by first | omega | (simp; done) | (simp; omega))) (.cons (.vs rfl (by first | omega | (simp; done) | (simp; omega))) (.cons (.vs rfl (by first | omega | (simp; done) | (simp; omega))) .nil))), (by simp)⟩ (.cons rfl rfl ⟨_, rfl, (by exact cov_all _)⟩ (.cons rfl rfl ⟨_, rfl, (by exact cov_all _)⟩ (.cons rfl rfl ⟨_, rfl, (by exact cov_all _)⟩ .nil)))) (by kernel_rfl)), trivial⟩ ?_
    refine AG.ren 44 2 (st' := ⟨mkT 25 [(4, .o 2 0 (List.length X))], [(0, .view (List.map (Value.int .u8) t)), (1, .view (List.map (Value.int .u8) m)), (2, .row (List.map (Value.int .u8) X))], 45⟩) (by kernel_rfl) (by kernel_rfl) ?_
    refine AG.fin ([.o 2 0 (List.length X)]) Go.Proofs.Tryd.f35 fn35 (.inr ⟨_, rfl⟩) (obs := []) (by kernel_rfl) trivial (by kernel_rfl) ⟨(by kernel_rfl), trivial⟩ (by kernel_rfl)
theorem vhash_e (h : E) (t m : List Int) (ht8 : All8 t) (hm8 : All8 m) (ht : t.length ≤ 100000) (hm : m.length ≤ 100000) : CallOK Tryd.prog (fun _ => none) 21 [.ex (.agg (ar8 16 (byt h)).toArray), .sv 0 0 t.length, .sv 1 0 m.length] [(0, .view (t.map (Value.int .u8))), (1, .view (m.map (Value.int .u8)))] { val := .ex (.agg (ar8 16 (byt (valV h (encL t m)))).toArray) } := by
  have c1 := encode_ok t m ht hm
  have hl : (encL t m).length ≤ 1000000 := by
    unfold encL
    split <;> simp [len_padL, len_markL, up16] <;> omega
  have c2 := vsum_e h (encL t m) (all8_encL t m ht8 hm8) hl
  generalize valV h (encL t m) = Y at *
  generalize encL t m = X at *
  refine CallOK.from0 hmix Tryd.f21 2 fn21 (by kernel_rfl) (by kernel_rfl) (fun w ρ h1 h2 => ?_)
  refine AG.rk 3 [1, 2, 3, 6] [0, 1, 2, 6] 7 (todo' := [.code (sub (codeOf Tryd.f21) [1, 0]), .code (sub (codeOf Tryd.f21) [1, 1])]) (st' := ⟨mkT 12 [(1, .sv 0 0 (List.length t)), (2, .sv 1 0 (List.length m)), (3, .p 2 0), (6, .p 6 0)], [(0, .view (List.map (Value.int .u8) t)), (1, .view (List.map (Value.int .u8) m)), (2, .own (ar8 16 (byt h))), (6, .own (List.replicate 16 (Value.int .u8 0)))], 7⟩) (by kernel_rfl) (by kernel_rfl) ?_
  refine AG.gk [] [(3, useR [(0, 0, 0), (1, 1, 0)] 19 ({ val := .o 2 0 (List.length X), upd := [(2, .row (List.map (Value.int .u8) X))], nks := [2] })), (4, useR [(0, 19, 0)] 23 ({ val := .ex (.agg (List.toArray (ar8 16 (byt Y)))) }))] [6] [0, 1, 6] 7 (st' := ⟨mkT 12 [(6, .p 6 0)], [(0, .view (List.map (Value.int .u8) t)), (1, .view (List.map (Value.int .u8) m)), (6, .own (ar8 16 (byt Y)))], 7⟩) (obs := [Ob.call (fun g => List.lookup g []) 35 [.sv 0 0 (List.length t), .sv 1 0 (List.length m)] [(0, .view (List.map (Value.int .u8) t)), (1, .view (List.map (Value.int .u8) m))] (useR [(0, 0, 0), (1, 1, 0)] 19 { val := .o 2 0 (List.length X), upd := [(2, .row (List.map (Value.int .u8) X))], nks := [2] }), Ob.call (fun g => List.lookup g []) 34 [.ex (.agg { toList := ar8 16 (byt h) }), .o 19 0 (List.length X)] [(19, .row (List.map (Value.int .u8) X))] (useR [(0, 19, 0)] 23 { val := .ex (.agg (List.toArray (ar8 16 (byt Y)))) })]) (by kernel_rfl) (by kernel_rfl) ⟨(CallOK.at0 [(0, 0, 0), (1, 1, 0)] 19 (c1 ) (.cons (.vv rfl) (.cons (.vv rfl) .nil)) (.cons rfl rfl ⟨_, rfl, (by exact cov_all _)⟩ (.cons rfl rfl ⟨_, rfl, (by exact cov_all _)⟩ .nil)) (by kernel_rfl)), (CallOK.at0 [(0, 19, 0)] 23 (c2 ) (.cons (.ex _) (.cons (.vo rfl) .nil)) (.cons rfl rfl ⟨_, rfl, (by exact cov_all _)⟩ .nil) (by kernel_rfl)), trivial⟩ ?_
  refine AG.fin ([.ex (.agg { toList := ar8 16 (byt Y) })]) Go.Proofs.Tryd.f21 fn21 (.inr ⟨_, rfl⟩) (obs := [Ob.le 16 16]) (by kernel_rfl) ⟨(Ob.holds_of_dec (by kernel_rfl)), trivial⟩ (by kernel_rfl) trivial (by kernel_rfl)
end Go.Proofs.YtdfbcdgneboilaaDoor.Ab
