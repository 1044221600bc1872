/- Own: cuts of any two floats, and the law CutOf followed (no statement is proved here). -/
import Derived.Test.YtngmlkkcjjfiaaaF15
import Derived.KernelRfl
namespace Go.Proofs.Ytngmlkkcjjfiaaa.Ab
open Go.Proofs
open Ieee (double)
set_option linter.unusedSimpArgs false
set_option linter.unusedVariables false
set_option maxRecDepth 4000
/-- A cut, or none. -/
def cutR (m : Nat) : Option Nat → Option Nat → Option (Nat × Nat)
  | some a, some n => if a + n ≤ m then some (a, n) else none
  | _, _ => none
def cA : Option (Nat × Nat) → Int
  | some p => (p.1 : Int)
  | none => 0
def cN : Option (Nat × Nat) → Int
  | some p => (p.2 : Int)
  | none => 0
theorem ascutx_ok (x y m : Nat) (hm : m < 2 ^ 40) (rx ry : Option Nat) (hx : nOf x m rx) (hy : nOf y m ry) : CallOK Try.prog (fun _ => none) 23 [.ex (.complex .f64 x y), .ex (.int .i64 (m : Int))] [] { val := .tup [.ex (.int .i64 (cA (cutR m rx ry))), .ex (.int .i64 (cN (cutR m rx ry))), .ex (.bool (cutR m rx ry).isSome)] } := by
  have c1 := numx_ok x m hm rx hx
  have c2 := numx_ok y m hm ry hy
  cases rx with
  | none =>
    obtain ⟨v, hv⟩ : ∃ v, v = rN ry := ⟨_, rfl⟩
    obtain ⟨b, hb⟩ : ∃ b, b = ry.isSome := ⟨_, rfl⟩
    rw [← hv, ← hb] at c2
    have e : cutR m none ry = none := rfl
    simp only [e, cA, cN, Option.isSome_none]
    simp only [rN, Option.isSome_none] at c1
    refine CallOK.from0 hmix Try.f23 0 fn23 (by kernel_rfl) (by kernel_rfl) (fun w ρ h1 h2 => ?_)
    refine AG.rk 5 [0, 3, 7] [0] 1 (todo' := [.code (sub (codeOf Try.f23) [1, 1, 0]), .code (sub (codeOf Try.f23) [1, 1, 1])]) (st' := ⟨mkT 40 [(0, .ex (.complex FloatKind.f64 x y)), (3, .p 0 0), (7, .f 26 [0])], [(0, .own [Value.int .i64 (↑m : Int)])], 1⟩) (by kernel_rfl) (by kernel_rfl) ?_
    refine AG.gk [] [(3, useR [(0, 0, 0)] 13 ({ val := .tup [.ex (.int .i64 0), .ex (.bool false)], upd := [(0, .own [Value.int .i64 (↑m : Int)])], wks := [0] }))] [0, 3, 4, 7, 8] [0] 1 (st' := ⟨mkT 40 [(0, .ex (.complex FloatKind.f64 x y)), (3, .p 0 0), (4, .ex (.int .i64 0)), (7, .f 26 [0]), (8, .ex (.bool false))], [(0, .own [Value.int .i64 (↑m : Int)])], 1⟩) (obs := [Ob.call (fun g => List.lookup g []) 26 [.ex (.float FloatKind.f64 x), .p 0 0] [(0, .own [Value.int .i64 (↑m : Int)])] (useR [(0, 0, 0)] 13 { val := .tup [.ex (.int .i64 0), .ex (.bool false)], upd := [(0, .own [Value.int .i64 (↑m : Int)])], wks := [0] })]) (by kernel_rfl) (by kernel_rfl) ⟨(CallOK.at0 [(0, 0, 0)] 13 (c1 ) (.cons (.ex _) (.cons (.p rfl) .nil)) (.cons rfl rfl ⟨rfl, rfl⟩ .nil) (by kernel_rfl)), trivial⟩ ?_
    refine AG.rk 1 [0, 3, 4, 7, 8] [0] 1 (todo' := [.code (sub (codeOf Try.f23) [1, 1, 1, 0]), .code (sub (codeOf Try.f23) [1, 1, 1, 1])]) (st' := ⟨mkT 40 [(0, .ex (.complex FloatKind.f64 x y)), (3, .p 0 0), (4, .ex (.int .i64 0)), (7, .f 26 [0]), (8, .ex (.bool false))], [(0, .own [Value.int .i64 (↑m : Int)])], 1⟩) (by kernel_rfl) (by kernel_rfl) ?_
    refine AG.gk [] [(3, useR [(0, 0, 0)] 13 ({ val := .tup [.ex (.int .i64 v), .ex (.bool b)], upd := [(0, .own [Value.int .i64 (↑m : Int)])], wks := [0] }))] [3, 4, 5, 8, 9] [0] 1 (st' := ⟨mkT 40 [(3, .p 0 0), (4, .ex (.int .i64 0)), (5, .ex (.int .i64 v)), (8, .ex (.bool false)), (9, .ex (.bool b))], [(0, .own [Value.int .i64 (↑m : Int)])], 1⟩) (obs := [Ob.call (fun g => List.lookup g []) 26 [.ex (.float FloatKind.f64 y), .p 0 0] [(0, .own [Value.int .i64 (↑m : Int)])] (useR [(0, 0, 0)] 13 { val := .tup [.ex (.int .i64 v), .ex (.bool b)], upd := [(0, .own [Value.int .i64 (↑m : Int)])], wks := [0] })]) (by kernel_rfl) (by kernel_rfl) ⟨(CallOK.at0 [(0, 0, 0)] 13 (c2 ) (.cons (.ex _) (.cons (.p rfl) .nil)) (.cons rfl rfl ⟨rfl, rfl⟩ .nil) (by kernel_rfl)), trivial⟩ ?_
    refine AG.rk 6 [4, 5, 6] [] 0 (todo' := [.code (sub (codeOf Try.f23) [1, 1, 1, 1, 0, 1, 0, 1]), .code (sub (codeOf Try.f23) [1, 1, 1, 1, 1])]) (st' := ⟨mkT 40 [(4, .ex (.int .i64 0)), (5, .ex (.int .i64 0)), (6, .ex (.bool false))], [], 0⟩) (by kernel_rfl) (by kernel_rfl) ?_
    refine AG.fin ([.ex (.int .i64 0), .ex (.int .i64 0), .ex (.bool false)]) Go.Proofs.Try.f23 fn23 (.inr ⟨_, rfl⟩) (obs := []) (by kernel_rfl) trivial (by kernel_rfl) trivial (by kernel_rfl)
  | some a =>
    have ha : a ≤ m := (show IsNum x m a from hx).le
    cases ry with
    | none =>
      have e : cutR m (some a) none = none := rfl
      simp only [e, cA, cN, Option.isSome_none]
      simp only [rN, Option.isSome_some, Option.isSome_none] at c1 c2
      refine CallOK.from0 hmix Try.f23 0 fn23 (by kernel_rfl) (by kernel_rfl) (fun w ρ h1 h2 => ?_)
      refine AG.rk 5 [0, 3, 7] [0] 1 (todo' := [.code (sub (codeOf Try.f23) [1, 1, 0]), .code (sub (codeOf Try.f23) [1, 1, 1])]) (st' := ⟨mkT 40 [(0, .ex (.complex FloatKind.f64 x y)), (3, .p 0 0), (7, .f 26 [0])], [(0, .own [Value.int .i64 (↑m : Int)])], 1⟩) (by kernel_rfl) (by kernel_rfl) ?_
      refine AG.gk [] [(3, useR [(0, 0, 0)] 13 ({ val := .tup [.ex (.int .i64 (↑a : Int)), .ex (.bool true)], upd := [(0, .own [Value.int .i64 (↑m : Int)])], wks := [0] }))] [0, 3, 4, 7, 8] [0] 1 (st' := ⟨mkT 40 [(0, .ex (.complex FloatKind.f64 x y)), (3, .p 0 0), (4, .ex (.int .i64 (↑a : Int))), (7, .f 26 [0]), (8, .ex (.bool true))], [(0, .own [Value.int .i64 (↑m : Int)])], 1⟩) (obs := [Ob.call (fun g => List.lookup g []) 26 [.ex (.float FloatKind.f64 x), .p 0 0] [(0, .own [Value.int .i64 (↑m : Int)])] (useR [(0, 0, 0)] 13 { val := .tup [.ex (.int .i64 (↑a : Int)), .ex (.bool true)], upd := [(0, .own [Value.int .i64 (↑m : Int)])], wks := [0] })]) (by kernel_rfl) (by kernel_rfl) ⟨(CallOK.at0 [(0, 0, 0)] 13 (c1 ) (.cons (.ex _) (.cons (.p rfl) .nil)) (.cons rfl rfl ⟨rfl, rfl⟩ .nil) (by kernel_rfl)), trivial⟩ ?_
      refine AG.rk 1 [0, 3, 4, 7, 8] [0] 1 (todo' := [.code (sub (codeOf Try.f23) [1, 1, 1, 0]), .code (sub (codeOf Try.f23) [1, 1, 1, 1])]) (st' := ⟨mkT 40 [(0, .ex (.complex FloatKind.f64 x y)), (3, .p 0 0), (4, .ex (.int .i64 (↑a : Int))), (7, .f 26 [0]), (8, .ex (.bool true))], [(0, .own [Value.int .i64 (↑m : Int)])], 1⟩) (by kernel_rfl) (by kernel_rfl) ?_
      refine AG.gk [] [(3, useR [(0, 0, 0)] 13 ({ val := .tup [.ex (.int .i64 0), .ex (.bool false)], upd := [(0, .own [Value.int .i64 (↑m : Int)])], wks := [0] }))] [3, 4, 5, 8, 9] [0] 1 (st' := ⟨mkT 40 [(3, .p 0 0), (4, .ex (.int .i64 (↑a : Int))), (5, .ex (.int .i64 0)), (8, .ex (.bool true)), (9, .ex (.bool false))], [(0, .own [Value.int .i64 (↑m : Int)])], 1⟩) (obs := [Ob.call (fun g => List.lookup g []) 26 [.ex (.float FloatKind.f64 y), .p 0 0] [(0, .own [Value.int .i64 (↑m : Int)])] (useR [(0, 0, 0)] 13 { val := .tup [.ex (.int .i64 0), .ex (.bool false)], upd := [(0, .own [Value.int .i64 (↑m : Int)])], wks := [0] })]) (by kernel_rfl) (by kernel_rfl) ⟨(CallOK.at0 [(0, 0, 0)] 13 (c2 ) (.cons (.ex _) (.cons (.p rfl) .nil)) (.cons rfl rfl ⟨rfl, rfl⟩ .nil) (by kernel_rfl)), trivial⟩ ?_
      refine AG.rk 6 [4, 5, 6] [] 0 (todo' := [.code (sub (codeOf Try.f23) [1, 1, 1, 1, 0, 1, 0, 1]), .code (sub (codeOf Try.f23) [1, 1, 1, 1, 1])]) (st' := ⟨mkT 40 [(4, .ex (.int .i64 0)), (5, .ex (.int .i64 0)), (6, .ex (.bool false))], [], 0⟩) (by kernel_rfl) (by kernel_rfl) ?_
      refine AG.fin ([.ex (.int .i64 0), .ex (.int .i64 0), .ex (.bool false)]) Go.Proofs.Try.f23 fn23 (.inr ⟨_, rfl⟩) (obs := []) (by kernel_rfl) trivial (by kernel_rfl) trivial (by kernel_rfl)
    | some n =>
      have hn : n ≤ m := (show IsNum y m n from hy).le
      simp only [rN, Option.isSome_some] at c1 c2
      have e1 : IntKind.i64.wrap ((m : Int) - (a : Int)) = ((m - a : Nat) : Int) := by rw [wrap64_id _ (by omega) (by omega)]; omega
      by_cases h : a + n ≤ m
      · have e2 : decide ((n : Int) > ((m - a : Nat) : Int)) = false := by simp; omega
        have e : cutR m (some a) (some n) = some (a, n) := if_pos h
        simp only [e, cA, cN, Option.isSome_some]
        refine CallOK.from0 hmix Try.f23 0 fn23 (by kernel_rfl) (by kernel_rfl) (fun w ρ h1 h2 => ?_)
        refine AG.rk 5 [0, 3, 7] [0] 1 (todo' := [.code (sub (codeOf Try.f23) [1, 1, 0]), .code (sub (codeOf Try.f23) [1, 1, 1])]) (st' := ⟨mkT 40 [(0, .ex (.complex FloatKind.f64 x y)), (3, .p 0 0), (7, .f 26 [0])], [(0, .own [Value.int .i64 (↑m : Int)])], 1⟩) (by kernel_rfl) (by kernel_rfl) ?_
        refine AG.gk [] [(3, useR [(0, 0, 0)] 13 ({ val := .tup [.ex (.int .i64 (↑a : Int)), .ex (.bool true)], upd := [(0, .own [Value.int .i64 (↑m : Int)])], wks := [0] }))] [0, 3, 4, 7, 8] [0] 1 (st' := ⟨mkT 40 [(0, .ex (.complex FloatKind.f64 x y)), (3, .p 0 0), (4, .ex (.int .i64 (↑a : Int))), (7, .f 26 [0]), (8, .ex (.bool true))], [(0, .own [Value.int .i64 (↑m : Int)])], 1⟩) (obs := [Ob.call (fun g => List.lookup g []) 26 [.ex (.float FloatKind.f64 x), .p 0 0] [(0, .own [Value.int .i64 (↑m : Int)])] (useR [(0, 0, 0)] 13 { val := .tup [.ex (.int .i64 (↑a : Int)), .ex (.bool true)], upd := [(0, .own [Value.int .i64 (↑m : Int)])], wks := [0] })]) (by kernel_rfl) (by kernel_rfl) ⟨(CallOK.at0 [(0, 0, 0)] 13 (c1 ) (.cons (.ex _) (.cons (.p rfl) .nil)) (.cons rfl rfl ⟨rfl, rfl⟩ .nil) (by kernel_rfl)), trivial⟩ ?_
        refine AG.rk 1 [0, 3, 4, 7, 8] [0] 1 (todo' := [.code (sub (codeOf Try.f23) [1, 1, 1, 0]), .code (sub (codeOf Try.f23) [1, 1, 1, 1])]) (st' := ⟨mkT 40 [(0, .ex (.complex FloatKind.f64 x y)), (3, .p 0 0), (4, .ex (.int .i64 (↑a : Int))), (7, .f 26 [0]), (8, .ex (.bool true))], [(0, .own [Value.int .i64 (↑m : Int)])], 1⟩) (by kernel_rfl) (by kernel_rfl) ?_
        refine AG.gk [] [(3, useR [(0, 0, 0)] 13 ({ val := .tup [.ex (.int .i64 (↑n : Int)), .ex (.bool true)], upd := [(0, .own [Value.int .i64 (↑m : Int)])], wks := [0] }))] [3, 4, 5, 8, 9] [0] 1 (st' := ⟨mkT 40 [(3, .p 0 0), (4, .ex (.int .i64 (↑a : Int))), (5, .ex (.int .i64 (↑n : Int))), (8, .ex (.bool true)), (9, .ex (.bool true))], [(0, .own [Value.int .i64 (↑m : Int)])], 1⟩) (obs := [Ob.call (fun g => List.lookup g []) 26 [.ex (.float FloatKind.f64 y), .p 0 0] [(0, .own [Value.int .i64 (↑m : Int)])] (useR [(0, 0, 0)] 13 { val := .tup [.ex (.int .i64 (↑n : Int)), .ex (.bool true)], upd := [(0, .own [Value.int .i64 (↑m : Int)])], wks := [0] })]) (by kernel_rfl) (by kernel_rfl) ⟨(CallOK.at0 [(0, 0, 0)] 13 (c2 ) (.cons (.ex _) (.cons (.p rfl) .nil)) (.cons rfl rfl ⟨rfl, rfl⟩ .nil) (by kernel_rfl)), trivial⟩ ?_
        refine AG.rk 2 [3, 4, 5, 8, 9] [0] 1 (todo' := [.code (sub (codeOf Try.f23) [1, 1, 1, 1, 0, 0]), .code (sub (codeOf Try.f23) [1, 1, 1, 1, 0, 1]), .code (sub (codeOf Try.f23) [1, 1, 1, 1, 1])]) (st' := ⟨mkT 40 [(3, .p 0 0), (4, .ex (.int .i64 (↑a : Int))), (5, .ex (.int .i64 (↑n : Int))), (8, .ex (.bool true)), (9, .ex (.bool true))], [(0, .own [Value.int .i64 (↑m : Int)])], 1⟩) (by kernel_rfl) (by kernel_rfl) ?_
        refine AG.gk [] [(10, { val := .ex (.int .i64 (↑(m - a) : Int)) }), (11, { val := .ex (.bool false) })] [4, 5, 37] [] 0 (st' := ⟨mkT 40 [(4, .ex (.int .i64 (↑a : Int))), (5, .ex (.int .i64 (↑n : Int))), (37, .ex (.bool false))], [], 0⟩) (obs := [Ob.eq (.ex (.int .i64 (IntKind.wrap .i64 ((↑m : Int) - (↑a : Int))))) (.ex (.int .i64 (↑(m - a) : Int))), Ob.eq (.ex (.bool (decide ((↑n : Int) > (↑(m - a) : Int))))) (.ex (.bool false))]) (by kernel_rfl) (by kernel_rfl) ⟨(by simp only [Ob.holds, e1]), (by simp only [Ob.holds, e2]), trivial⟩ ?_
        refine AG.rk 4 [4, 5, 6] [] 0 (todo' := [.code (sub (codeOf Try.f23) [1, 1, 1, 1, 0, 1, 0, 1])]) (st' := ⟨mkT 40 [(4, .ex (.int .i64 (↑a : Int))), (5, .ex (.int .i64 (↑n : Int))), (6, .ex (.bool true))], [], 0⟩) (by kernel_rfl) (by kernel_rfl) ?_
        refine AG.fin ([.ex (.int .i64 (↑a : Int)), .ex (.int .i64 (↑n : Int)), .ex (.bool true)]) Go.Proofs.Try.f23 fn23 (.inr ⟨_, rfl⟩) (obs := []) (by kernel_rfl) trivial (by kernel_rfl) trivial (by kernel_rfl)
      · have e2 : decide ((n : Int) > ((m - a : Nat) : Int)) = true := by simp; omega
        have e : cutR m (some a) (some n) = none := if_neg h
        simp only [e, cA, cN, Option.isSome_none]
        refine CallOK.from0 hmix Try.f23 0 fn23 (by kernel_rfl) (by kernel_rfl) (fun w ρ h1 h2 => ?_)
        refine AG.rk 5 [0, 3, 7] [0] 1 (todo' := [.code (sub (codeOf Try.f23) [1, 1, 0]), .code (sub (codeOf Try.f23) [1, 1, 1])]) (st' := ⟨mkT 40 [(0, .ex (.complex FloatKind.f64 x y)), (3, .p 0 0), (7, .f 26 [0])], [(0, .own [Value.int .i64 (↑m : Int)])], 1⟩) (by kernel_rfl) (by kernel_rfl) ?_
        refine AG.gk [] [(3, useR [(0, 0, 0)] 13 ({ val := .tup [.ex (.int .i64 (↑a : Int)), .ex (.bool true)], upd := [(0, .own [Value.int .i64 (↑m : Int)])], wks := [0] }))] [0, 3, 4, 7, 8] [0] 1 (st' := ⟨mkT 40 [(0, .ex (.complex FloatKind.f64 x y)), (3, .p 0 0), (4, .ex (.int .i64 (↑a : Int))), (7, .f 26 [0]), (8, .ex (.bool true))], [(0, .own [Value.int .i64 (↑m : Int)])], 1⟩) (obs := [Ob.call (fun g => List.lookup g []) 26 [.ex (.float FloatKind.f64 x), .p 0 0] [(0, .own [Value.int .i64 (↑m : Int)])] (useR [(0, 0, 0)] 13 { val := .tup [.ex (.int .i64 (↑a : Int)), .ex (.bool true)], upd := [(0, .own [Value.int .i64 (↑m : Int)])], wks := [0] })]) (by kernel_rfl) (by kernel_rfl) ⟨(CallOK.at0 [(0, 0, 0)] 13 (c1 ) (.cons (.ex _) (.cons (.p rfl) .nil)) (.cons rfl rfl ⟨rfl, rfl⟩ .nil) (by kernel_rfl)), trivial⟩ ?_
        refine AG.rk 1 [0, 3, 4, 7, 8] [0] 1 (todo' := [.code (sub (codeOf Try.f23) [1, 1, 1, 0]), .code (sub (codeOf Try.f23) [1, 1, 1, 1])]) (st' := ⟨mkT 40 [(0, .ex (.complex FloatKind.f64 x y)), (3, .p 0 0), (4, .ex (.int .i64 (↑a : Int))), (7, .f 26 [0]), (8, .ex (.bool true))], [(0, .own [Value.int .i64 (↑m : Int)])], 1⟩) (by kernel_rfl) (by kernel_rfl) ?_
        refine AG.gk [] [(3, useR [(0, 0, 0)] 13 ({ val := .tup [.ex (.int .i64 (↑n : Int)), .ex (.bool true)], upd := [(0, .own [Value.int .i64 (↑m : Int)])], wks := [0] }))] [3, 4, 5, 8, 9] [0] 1 (st' := ⟨mkT 40 [(3, .p 0 0), (4, .ex (.int .i64 (↑a : Int))), (5, .ex (.int .i64 (↑n : Int))), (8, .ex (.bool true)), (9, .ex (.bool true))], [(0, .own [Value.int .i64 (↑m : Int)])], 1⟩) (obs := [Ob.call (fun g => List.lookup g []) 26 [.ex (.float FloatKind.f64 y), .p 0 0] [(0, .own [Value.int .i64 (↑m : Int)])] (useR [(0, 0, 0)] 13 { val := .tup [.ex (.int .i64 (↑n : Int)), .ex (.bool true)], upd := [(0, .own [Value.int .i64 (↑m : Int)])], wks := [0] })]) (by kernel_rfl) (by kernel_rfl) ⟨(CallOK.at0 [(0, 0, 0)] 13 (c2 ) (.cons (.ex _) (.cons (.p rfl) .nil)) (.cons rfl rfl ⟨rfl, rfl⟩ .nil) (by kernel_rfl)), trivial⟩ ?_
        refine AG.rk 2 [3, 4, 5, 8, 9] [0] 1 (todo' := [.code (sub (codeOf Try.f23) [1, 1, 1, 1, 0, 0]), .code (sub (codeOf Try.f23) [1, 1, 1, 1, 0, 1]), .code (sub (codeOf Try.f23) [1, 1, 1, 1, 1])]) (st' := ⟨mkT 40 [(3, .p 0 0), (4, .ex (.int .i64 (↑a : Int))), (5, .ex (.int .i64 (↑n : Int))), (8, .ex (.bool true)), (9, .ex (.bool true))], [(0, .own [Value.int .i64 (↑m : Int)])], 1⟩) (by kernel_rfl) (by kernel_rfl) ?_
        refine AG.gk [] [(10, { val := .ex (.int .i64 (↑(m - a) : Int)) }), (11, { val := .ex (.bool true) })] [4, 5, 37] [] 0 (st' := ⟨mkT 40 [(4, .ex (.int .i64 (↑a : Int))), (5, .ex (.int .i64 (↑n : Int))), (37, .ex (.bool true))], [], 0⟩) (obs := [Ob.eq (.ex (.int .i64 (IntKind.wrap .i64 ((↑m : Int) - (↑a : Int))))) (.ex (.int .i64 (↑(m - a) : Int))), Ob.eq (.ex (.bool (decide ((↑n : Int) > (↑(m - a) : Int))))) (.ex (.bool true))]) (by kernel_rfl) (by kernel_rfl) ⟨(by simp only [Ob.holds, e1]), (by simp only [Ob.holds, e2]), trivial⟩ ?_
        refine AG.rk 3 [4, 5, 6] [] 0 (todo' := [.code (sub (codeOf Try.f23) [1, 1, 1, 1, 0, 1, 0, 1]), .code (sub (codeOf Try.f23) [1, 1, 1, 1, 1])]) (st' := ⟨mkT 40 [(4, .ex (.int .i64 0)), (5, .ex (.int .i64 0)), (6, .ex (.bool false))], [], 0⟩) (by kernel_rfl) (by kernel_rfl) ?_
        refine AG.fin ([.ex (.int .i64 0), .ex (.int .i64 0), .ex (.bool false)]) Go.Proofs.Try.f23 fn23 (.inr ⟨_, rfl⟩) (obs := []) (by kernel_rfl) trivial (by kernel_rfl) trivial (by kernel_rfl)
theorem rwhole_ok (x m : Nat) (hm : m < 2 ^ 40) (r : Option Nat) (hr : nOf x m r) : CallOK Try.prog (fun _ => none) 25 [.ex (.float .f64 x), .ex (.int .i64 (m : Int))] [] { val := .tup [.ex (.int .i64 (rN r)), .ex (.bool r.isSome)] } := by
  have hw : ∀ i, i ≤ m → (Ieee.Format.order (FloatKind.format FloatKind.f64) (fb i) x == some Ordering.eq) = decide (some i = r) := by
    cases r with
    | some n =>
      have h : IsNum x m n := hr
      intro i hi
      have h2 : (Ieee.Format.order (FloatKind.format FloatKind.f64) (fb i) x == some Ordering.eq) = decide (i = n) := h.whole i hi
      rw [h2]; simp
    | none =>
      have h : NoNum x m := hr
      intro i hi
      have e : decide (some i = (none : Option Nat)) = false := by simp
      rw [e]
      cases h with
      | low _ hw => exact hw i hi
      | high _ _ hw => exact hw i hi
      | broken _ _ _ _ hw => exact hw i hi
  have hle : ∀ n, r = some n → n ≤ m := fun n e => by subst e; exact (show IsNum x m n from hr).le
  refine CallOK.from0 hmix Try.f25 0 fn25 (by kernel_rfl) (by kernel_rfl) (fun w ρ h1 h2 => ?_)
  refine AG.rk 6 [0, 1, 6] [] 0 (todo' := [.code (sub (codeOf Try.f25) [1, 0, 1, 0]), .inBlock 0, .code (sub (codeOf Try.f25) [1, 1])]) (st' := ⟨mkT 17 [(0, .ex (.float FloatKind.f64 x)), (1, .ex (.int .i64 (↑m : Int))), (6, .ex (.int .i64 0))], [], 0⟩) (by kernel_rfl) (by kernel_rfl) ?_
  refine AG.rk 1 [0, 1, 6] [] 0 (todo' := [.code (sub (codeOf Try.f25) [1, 0, 1, 0, 0]), .inLoop (sub (codeOf Try.f25) [1, 0, 1, 0, 0]), .inBlock 0, .code (sub (codeOf Try.f25) [1, 1])]) (st' := ⟨mkT 17 [(0, .ex (.float FloatKind.f64 x)), (1, .ex (.int .i64 (↑m : Int))), (6, .ex (.int .i64 0))], [], 0⟩) (by kernel_rfl) (by kernel_rfl) ?_
  refine AG.indE (α := {i : Nat // i ≤ m + 1 ∧ ∀ j, j < i → some j ≠ r}) (fun i => m + 1 - i.1)
    (fun i => ⟨mkT 17 [(0, .ex (.float .f64 x)), (1, .ex (.int .i64 (m : Int))), (6, .ex (.int .i64 (i.1 : Int)))], [], 0⟩) ⟨0, by omega, fun j hj => by omega⟩ (by kernel_rfl) ?_
  rintro ⟨i, hi, hj⟩ ih
  simp only at hi hj ih ⊢
  refine AG.rk 3 [0, 1, 6, 9] [] 0 (todo' := [.code (sub (codeOf Try.f25) [1, 0, 1, 0, 0, 0, 1]), .code (sub (codeOf Try.f25) [1, 0, 1, 0, 0, 1]), .inLoop (sub (codeOf Try.f25) [1, 0, 1, 0, 0]), .inBlock 0, .code (sub (codeOf Try.f25) [1, 1])]) (st' := ⟨mkT 17 [(0, .ex (.float FloatKind.f64 x)), (1, .ex (.int .i64 (↑m : Int))), (6, .ex (.int .i64 (↑i : Int))), (9, .ex (.bool (decide ((↑i : Int) ≤ (↑m : Int)))))], [], 0⟩) (by kernel_rfl) (by kernel_rfl) ?_
  refine AG.cond (b := decide ((↑i : Int) ≤ (↑m : Int))) (by kernel_rfl) (fun hc => ?_) (fun hc => ?_)
  · have hi' : i ≤ m := by simp at hc; omega
    clear hc
    have q0 := hw i hi'
    have e5 : IntKind.i64.wrap ((i : Int) + 1) = ((i + 1 : Nat) : Int) := by rw [wrap64_id _ (by omega) (by omega)]; omega
    obtain ⟨z, hz⟩ : ∃ z, z = fb i := ⟨_, rfl⟩
    rw [← hz] at q0
    by_cases he : some i = r
    · rw [decide_eq_true he] at q0
      rw [← he]
      simp only [rN, Option.isSome_some]
      refine AG.rk 4 [0, 1, 6] [] 0 (todo' := [.code (sub (codeOf Try.f25) [1, 0, 1, 0, 0, 1, 0, 0, 0]), .code (sub (codeOf Try.f25) [1, 0, 1, 0, 0, 1, 0, 0, 1]), .inBlock 1, .code (sub (codeOf Try.f25) [1, 0, 1, 0, 0, 1, 1]), .inLoop (sub (codeOf Try.f25) [1, 0, 1, 0, 0]), .inBlock 0, .code (sub (codeOf Try.f25) [1, 1])]) (st' := ⟨mkT 17 [(0, .ex (.float FloatKind.f64 x)), (1, .ex (.int .i64 (↑m : Int))), (6, .ex (.int .i64 (↑i : Int)))], [], 0⟩) (by kernel_rfl) (by kernel_rfl) ?_
      refine AG.gk [] [(1, { val := .ex (.float FloatKind.f64 z) }), (3, { val := .ex (.bool true) })] [0, 1, 6, 15] [] 0 (st' := ⟨mkT 17 [(0, .ex (.float FloatKind.f64 x)), (1, .ex (.int .i64 (↑m : Int))), (6, .ex (.int .i64 (↑i : Int))), (15, .ex (.bool true))], [], 0⟩) (obs := [Ob.eq (.ex (.float FloatKind.f64 (fb i))) (.ex (.float FloatKind.f64 z)), Ob.eq (.ex (.bool (Ieee.Format.order (FloatKind.format FloatKind.f64) z x == some Ordering.eq))) (.ex (.bool true))]) (by kernel_rfl) (by kernel_rfl) ⟨(by simp only [Ob.holds, ← hz]), (by simp only [Ob.holds, q0]), trivial⟩ ?_
      refine AG.rk 3 [4, 5] [] 0 (todo' := [.code (sub (codeOf Try.f25) [1, 0, 1, 0, 0, 1, 0, 0, 1, 0, 1]), .inBlock 1, .code (sub (codeOf Try.f25) [1, 0, 1, 0, 0, 1, 1]), .inLoop (sub (codeOf Try.f25) [1, 0, 1, 0, 0]), .inBlock 0, .code (sub (codeOf Try.f25) [1, 1])]) (st' := ⟨mkT 17 [(4, .ex (.int .i64 (↑i : Int))), (5, .ex (.bool true))], [], 0⟩) (by kernel_rfl) (by kernel_rfl) ?_
      refine AG.fin ([.ex (.int .i64 (↑i : Int)), .ex (.bool true)]) Go.Proofs.Try.f25 fn25 (.inr ⟨_, rfl⟩) (obs := []) (by kernel_rfl) trivial (by kernel_rfl) trivial (by kernel_rfl)
    · rw [decide_eq_false he] at q0
      have ih1 := ih ⟨i + 1, by omega, fun j hj2 => by
        rcases Nat.lt_or_eq_of_le (Nat.lt_succ_iff.1 hj2) with h | h
        · exact hj j h
        · subst h; exact he⟩ (by simp only; omega)
      simp only at ih1
      refine AG.rk 4 [0, 1, 6] [] 0 (todo' := [.code (sub (codeOf Try.f25) [1, 0, 1, 0, 0, 1, 0, 0, 0]), .code (sub (codeOf Try.f25) [1, 0, 1, 0, 0, 1, 0, 0, 1]), .inBlock 1, .code (sub (codeOf Try.f25) [1, 0, 1, 0, 0, 1, 1]), .inLoop (sub (codeOf Try.f25) [1, 0, 1, 0, 0]), .inBlock 0, .code (sub (codeOf Try.f25) [1, 1])]) (st' := ⟨mkT 17 [(0, .ex (.float FloatKind.f64 x)), (1, .ex (.int .i64 (↑m : Int))), (6, .ex (.int .i64 (↑i : Int)))], [], 0⟩) (by kernel_rfl) (by kernel_rfl) ?_
      refine AG.gk [] [(1, { val := .ex (.float FloatKind.f64 z) }), (3, { val := .ex (.bool false) })] [0, 1, 6, 15] [] 0 (st' := ⟨mkT 17 [(0, .ex (.float FloatKind.f64 x)), (1, .ex (.int .i64 (↑m : Int))), (6, .ex (.int .i64 (↑i : Int))), (15, .ex (.bool false))], [], 0⟩) (obs := [Ob.eq (.ex (.float FloatKind.f64 (fb i))) (.ex (.float FloatKind.f64 z)), Ob.eq (.ex (.bool (Ieee.Format.order (FloatKind.format FloatKind.f64) z x == some Ordering.eq))) (.ex (.bool false))]) (by kernel_rfl) (by kernel_rfl) ⟨(by simp only [Ob.holds, ← hz]), (by simp only [Ob.holds, q0]), trivial⟩ ?_
      refine AG.rk 5 [0, 1, 6] [] 0 (todo' := [.code (sub (codeOf Try.f25) [1, 0, 1, 0, 0]), .inLoop (sub (codeOf Try.f25) [1, 0, 1, 0, 0]), .inBlock 0, .code (sub (codeOf Try.f25) [1, 1])]) (st' := ⟨mkT 17 [(0, .ex (.float FloatKind.f64 x)), (1, .ex (.int .i64 (↑m : Int))), (6, .ex (.int .i64 (IntKind.wrap .i64 ((↑i : Int) + 1))))], [], 0⟩) (by kernel_rfl) (by kernel_rfl) ?_
      rewrite [e5]
      exact ih1
  · have him : i = m + 1 := by simp at hc; omega
    clear hc ih
    have hr0 : r = none := by
      cases r with
      | none => rfl
      | some n => exact absurd rfl (hj n (by have := hle n rfl; omega))
    subst hr0
    simp only [rN, Option.isSome_none]
    refine AG.rk 3 [4, 5] [] 0 (todo' := [.code (sub (codeOf Try.f25) [1, 0, 1, 0, 0, 1, 0, 0, 1, 0, 1])]) (st' := ⟨mkT 17 [(4, .ex (.int .i64 0)), (5, .ex (.bool false))], [], 0⟩) (by kernel_rfl) (by kernel_rfl) ?_
    refine AG.fin ([.ex (.int .i64 0), .ex (.bool false)]) Go.Proofs.Try.f25 fn25 (.inr ⟨_, rfl⟩) (obs := []) (by kernel_rfl) trivial (by kernel_rfl) trivial (by kernel_rfl)
theorem rcut_ok (x y m : Nat) (hm : m < 2 ^ 40) (rx ry : Option Nat) (hx : nOf x m rx) (hy : nOf y m ry) : CallOK Try.prog (fun _ => none) 16 [.ex (.float .f64 x), .ex (.float .f64 y), .ex (.int .i64 (m : Int))] [] { val := .tup [.ex (.int .i64 (cA (cutR m rx ry))), .ex (.int .i64 (cN (cutR m rx ry))), .ex (.bool (cutR m rx ry).isSome)] } := by
  have c1 := rwhole_ok x m hm rx hx
  have c2 := rwhole_ok y m hm ry hy
  cases rx with
  | none =>
    obtain ⟨v, hv⟩ : ∃ v, v = rN ry := ⟨_, rfl⟩
    obtain ⟨b, hb⟩ : ∃ b, b = ry.isSome := ⟨_, rfl⟩
    rw [← hv, ← hb] at c2
    have e : cutR m none ry = none := rfl
    simp only [e, cA, cN, Option.isSome_none]
    simp only [rN, Option.isSome_none] at c1
    refine CallOK.from0 hmix Try.f16 0 fn16 (by kernel_rfl) (by kernel_rfl) (fun w ρ h1 h2 => ?_)
    refine AG.rk 3 [0, 1, 2] [] 0 (todo' := [.code (sub (codeOf Try.f16) [1, 0]), .code (sub (codeOf Try.f16) [1, 1])]) (st' := ⟨mkT 40 [(0, .ex (.float FloatKind.f64 x)), (1, .ex (.float FloatKind.f64 y)), (2, .ex (.int .i64 (↑m : Int)))], [], 0⟩) (by kernel_rfl) (by kernel_rfl) ?_
    refine AG.gk [] [(2, { val := .tup [.ex (.int .i64 0), .ex (.bool false)] })] [1, 2, 9, 10] [] 0 (st' := ⟨mkT 40 [(1, .ex (.float FloatKind.f64 y)), (2, .ex (.int .i64 (↑m : Int))), (9, .ex (.int .i64 0)), (10, .ex (.bool false))], [], 0⟩) (obs := [Ob.call (fun g => List.lookup g []) 25 [.ex (.float FloatKind.f64 x), .ex (.int .i64 (↑m : Int))] [] { val := .tup [.ex (.int .i64 0), .ex (.bool false)] }]) (by kernel_rfl) (by kernel_rfl) ⟨((c1 ).gl), trivial⟩ ?_
    refine AG.rk 1 [1, 2, 9, 10] [] 0 (todo' := [.code (sub (codeOf Try.f16) [1, 1, 0]), .code (sub (codeOf Try.f16) [1, 1, 1])]) (st' := ⟨mkT 40 [(1, .ex (.float FloatKind.f64 y)), (2, .ex (.int .i64 (↑m : Int))), (9, .ex (.int .i64 0)), (10, .ex (.bool false))], [], 0⟩) (by kernel_rfl) (by kernel_rfl) ?_
    refine AG.gk [] [(2, { val := .tup [.ex (.int .i64 v), .ex (.bool b)] })] [2, 9, 10, 11, 12] [] 0 (st' := ⟨mkT 40 [(2, .ex (.int .i64 (↑m : Int))), (9, .ex (.int .i64 0)), (10, .ex (.bool false)), (11, .ex (.int .i64 v)), (12, .ex (.bool b))], [], 0⟩) (obs := [Ob.call (fun g => List.lookup g []) 25 [.ex (.float FloatKind.f64 y), .ex (.int .i64 (↑m : Int))] [] { val := .tup [.ex (.int .i64 v), .ex (.bool b)] }]) (by kernel_rfl) (by kernel_rfl) ⟨((c2 ).gl), trivial⟩ ?_
    refine AG.rk 6 [6, 7, 8] [] 0 (todo' := [.code (sub (codeOf Try.f16) [1, 1, 1, 0, 1, 0, 1]), .code (sub (codeOf Try.f16) [1, 1, 1, 1])]) (st' := ⟨mkT 40 [(6, .ex (.int .i64 0)), (7, .ex (.int .i64 0)), (8, .ex (.bool false))], [], 0⟩) (by kernel_rfl) (by kernel_rfl) ?_
    refine AG.fin ([.ex (.int .i64 0), .ex (.int .i64 0), .ex (.bool false)]) Go.Proofs.Try.f16 fn16 (.inr ⟨_, rfl⟩) (obs := []) (by kernel_rfl) trivial (by kernel_rfl) trivial (by kernel_rfl)
  | some a =>
    have ha : a ≤ m := (show IsNum x m a from hx).le
    cases ry with
    | none =>
      have e : cutR m (some a) none = none := rfl
      simp only [e, cA, cN, Option.isSome_none]
      simp only [rN, Option.isSome_some, Option.isSome_none] at c1 c2
      refine CallOK.from0 hmix Try.f16 0 fn16 (by kernel_rfl) (by kernel_rfl) (fun w ρ h1 h2 => ?_)
      refine AG.rk 3 [0, 1, 2] [] 0 (todo' := [.code (sub (codeOf Try.f16) [1, 0]), .code (sub (codeOf Try.f16) [1, 1])]) (st' := ⟨mkT 40 [(0, .ex (.float FloatKind.f64 x)), (1, .ex (.float FloatKind.f64 y)), (2, .ex (.int .i64 (↑m : Int)))], [], 0⟩) (by kernel_rfl) (by kernel_rfl) ?_
      refine AG.gk [] [(2, { val := .tup [.ex (.int .i64 (↑a : Int)), .ex (.bool true)] })] [1, 2, 9, 10] [] 0 (st' := ⟨mkT 40 [(1, .ex (.float FloatKind.f64 y)), (2, .ex (.int .i64 (↑m : Int))), (9, .ex (.int .i64 (↑a : Int))), (10, .ex (.bool true))], [], 0⟩) (obs := [Ob.call (fun g => List.lookup g []) 25 [.ex (.float FloatKind.f64 x), .ex (.int .i64 (↑m : Int))] [] { val := .tup [.ex (.int .i64 (↑a : Int)), .ex (.bool true)] }]) (by kernel_rfl) (by kernel_rfl) ⟨((c1 ).gl), trivial⟩ ?_
      refine AG.rk 1 [1, 2, 9, 10] [] 0 (todo' := [.code (sub (codeOf Try.f16) [1, 1, 0]), .code (sub (codeOf Try.f16) [1, 1, 1])]) (st' := ⟨mkT 40 [(1, .ex (.float FloatKind.f64 y)), (2, .ex (.int .i64 (↑m : Int))), (9, .ex (.int .i64 (↑a : Int))), (10, .ex (.bool true))], [], 0⟩) (by kernel_rfl) (by kernel_rfl) ?_
      refine AG.gk [] [(2, { val := .tup [.ex (.int .i64 0), .ex (.bool false)] })] [2, 9, 10, 11, 12] [] 0 (st' := ⟨mkT 40 [(2, .ex (.int .i64 (↑m : Int))), (9, .ex (.int .i64 (↑a : Int))), (10, .ex (.bool true)), (11, .ex (.int .i64 0)), (12, .ex (.bool false))], [], 0⟩) (obs := [Ob.call (fun g => List.lookup g []) 25 [.ex (.float FloatKind.f64 y), .ex (.int .i64 (↑m : Int))] [] { val := .tup [.ex (.int .i64 0), .ex (.bool false)] }]) (by kernel_rfl) (by kernel_rfl) ⟨((c2 ).gl), trivial⟩ ?_
      refine AG.rk 6 [6, 7, 8] [] 0 (todo' := [.code (sub (codeOf Try.f16) [1, 1, 1, 0, 1, 0, 1]), .code (sub (codeOf Try.f16) [1, 1, 1, 1])]) (st' := ⟨mkT 40 [(6, .ex (.int .i64 0)), (7, .ex (.int .i64 0)), (8, .ex (.bool false))], [], 0⟩) (by kernel_rfl) (by kernel_rfl) ?_
      refine AG.fin ([.ex (.int .i64 0), .ex (.int .i64 0), .ex (.bool false)]) Go.Proofs.Try.f16 fn16 (.inr ⟨_, rfl⟩) (obs := []) (by kernel_rfl) trivial (by kernel_rfl) trivial (by kernel_rfl)
    | some n =>
      have hn : n ≤ m := (show IsNum y m n from hy).le
      simp only [rN, Option.isSome_some] at c1 c2
      have e1 : IntKind.i64.wrap ((a : Int) + (n : Int)) = ((a + n : Nat) : Int) := by rw [wrap64_id _ (by omega) (by omega)]; omega
      by_cases h : a + n ≤ m
      · have e2 : decide (((a + n : Nat) : Int) > (m : Int)) = false := by simp; omega
        have e : cutR m (some a) (some n) = some (a, n) := if_pos h
        simp only [e, cA, cN, Option.isSome_some]
        refine CallOK.from0 hmix Try.f16 0 fn16 (by kernel_rfl) (by kernel_rfl) (fun w ρ h1 h2 => ?_)
        refine AG.rk 3 [0, 1, 2] [] 0 (todo' := [.code (sub (codeOf Try.f16) [1, 0]), .code (sub (codeOf Try.f16) [1, 1])]) (st' := ⟨mkT 40 [(0, .ex (.float FloatKind.f64 x)), (1, .ex (.float FloatKind.f64 y)), (2, .ex (.int .i64 (↑m : Int)))], [], 0⟩) (by kernel_rfl) (by kernel_rfl) ?_
        refine AG.gk [] [(2, { val := .tup [.ex (.int .i64 (↑a : Int)), .ex (.bool true)] })] [1, 2, 9, 10] [] 0 (st' := ⟨mkT 40 [(1, .ex (.float FloatKind.f64 y)), (2, .ex (.int .i64 (↑m : Int))), (9, .ex (.int .i64 (↑a : Int))), (10, .ex (.bool true))], [], 0⟩) (obs := [Ob.call (fun g => List.lookup g []) 25 [.ex (.float FloatKind.f64 x), .ex (.int .i64 (↑m : Int))] [] { val := .tup [.ex (.int .i64 (↑a : Int)), .ex (.bool true)] }]) (by kernel_rfl) (by kernel_rfl) ⟨((c1 ).gl), trivial⟩ ?_
        refine AG.rk 1 [1, 2, 9, 10] [] 0 (todo' := [.code (sub (codeOf Try.f16) [1, 1, 0]), .code (sub (codeOf Try.f16) [1, 1, 1])]) (st' := ⟨mkT 40 [(1, .ex (.float FloatKind.f64 y)), (2, .ex (.int .i64 (↑m : Int))), (9, .ex (.int .i64 (↑a : Int))), (10, .ex (.bool true))], [], 0⟩) (by kernel_rfl) (by kernel_rfl) ?_
        refine AG.gk [] [(2, { val := .tup [.ex (.int .i64 (↑n : Int)), .ex (.bool true)] })] [2, 9, 10, 11, 12] [] 0 (st' := ⟨mkT 40 [(2, .ex (.int .i64 (↑m : Int))), (9, .ex (.int .i64 (↑a : Int))), (10, .ex (.bool true)), (11, .ex (.int .i64 (↑n : Int))), (12, .ex (.bool true))], [], 0⟩) (obs := [Ob.call (fun g => List.lookup g []) 25 [.ex (.float FloatKind.f64 y), .ex (.int .i64 (↑m : Int))] [] { val := .tup [.ex (.int .i64 (↑n : Int)), .ex (.bool true)] }]) (by kernel_rfl) (by kernel_rfl) ⟨((c2 ).gl), trivial⟩ ?_
        refine AG.rk 2 [2, 9, 10, 11, 12] [] 0 (todo' := [.code (sub (codeOf Try.f16) [1, 1, 1, 0, 0]), .code (sub (codeOf Try.f16) [1, 1, 1, 0, 1]), .code (sub (codeOf Try.f16) [1, 1, 1, 1])]) (st' := ⟨mkT 40 [(2, .ex (.int .i64 (↑m : Int))), (9, .ex (.int .i64 (↑a : Int))), (10, .ex (.bool true)), (11, .ex (.int .i64 (↑n : Int))), (12, .ex (.bool true))], [], 0⟩) (by kernel_rfl) (by kernel_rfl) ?_
        refine AG.gk [] [(9, { val := .ex (.int .i64 (↑(a + n) : Int)) }), (11, { val := .ex (.bool false) })] [9, 11, 37] [] 0 (st' := ⟨mkT 40 [(9, .ex (.int .i64 (↑a : Int))), (11, .ex (.int .i64 (↑n : Int))), (37, .ex (.bool false))], [], 0⟩) (obs := [Ob.eq (.ex (.int .i64 (IntKind.wrap .i64 ((↑a : Int) + (↑n : Int))))) (.ex (.int .i64 (↑(a + n) : Int))), Ob.eq (.ex (.bool (decide ((↑(a + n) : Int) > (↑m : Int))))) (.ex (.bool false))]) (by kernel_rfl) (by kernel_rfl) ⟨(by simp only [Ob.holds, e1]), (by simp only [Ob.holds, e2]), trivial⟩ ?_
        refine AG.rk 4 [6, 7, 8] [] 0 (todo' := [.code (sub (codeOf Try.f16) [1, 1, 1, 0, 1, 0, 1])]) (st' := ⟨mkT 40 [(6, .ex (.int .i64 (↑a : Int))), (7, .ex (.int .i64 (↑n : Int))), (8, .ex (.bool true))], [], 0⟩) (by kernel_rfl) (by kernel_rfl) ?_
        refine AG.fin ([.ex (.int .i64 (↑a : Int)), .ex (.int .i64 (↑n : Int)), .ex (.bool true)]) Go.Proofs.Try.f16 fn16 (.inr ⟨_, rfl⟩) (obs := []) (by kernel_rfl) trivial (by kernel_rfl) trivial (by kernel_rfl)
      · have e2 : decide (((a + n : Nat) : Int) > (m : Int)) = true := by simp; omega
        have e : cutR m (some a) (some n) = none := if_neg h
        simp only [e, cA, cN, Option.isSome_none]
        refine CallOK.from0 hmix Try.f16 0 fn16 (by kernel_rfl) (by kernel_rfl) (fun w ρ h1 h2 => ?_)
        refine AG.rk 3 [0, 1, 2] [] 0 (todo' := [.code (sub (codeOf Try.f16) [1, 0]), .code (sub (codeOf Try.f16) [1, 1])]) (st' := ⟨mkT 40 [(0, .ex (.float FloatKind.f64 x)), (1, .ex (.float FloatKind.f64 y)), (2, .ex (.int .i64 (↑m : Int)))], [], 0⟩) (by kernel_rfl) (by kernel_rfl) ?_
        refine AG.gk [] [(2, { val := .tup [.ex (.int .i64 (↑a : Int)), .ex (.bool true)] })] [1, 2, 9, 10] [] 0 (st' := ⟨mkT 40 [(1, .ex (.float FloatKind.f64 y)), (2, .ex (.int .i64 (↑m : Int))), (9, .ex (.int .i64 (↑a : Int))), (10, .ex (.bool true))], [], 0⟩) (obs := [Ob.call (fun g => List.lookup g []) 25 [.ex (.float FloatKind.f64 x), .ex (.int .i64 (↑m : Int))] [] { val := .tup [.ex (.int .i64 (↑a : Int)), .ex (.bool true)] }]) (by kernel_rfl) (by kernel_rfl) ⟨((c1 ).gl), trivial⟩ ?_
        refine AG.rk 1 [1, 2, 9, 10] [] 0 (todo' := [.code (sub (codeOf Try.f16) [1, 1, 0]), .code (sub (codeOf Try.f16) [1, 1, 1])]) (st' := ⟨mkT 40 [(1, .ex (.float FloatKind.f64 y)), (2, .ex (.int .i64 (↑m : Int))), (9, .ex (.int .i64 (↑a : Int))), (10, .ex (.bool true))], [], 0⟩) (by kernel_rfl) (by kernel_rfl) ?_
        refine AG.gk [] [(2, { val := .tup [.ex (.int .i64 (↑n : Int)), .ex (.bool true)] })] [2, 9, 10, 11, 12] [] 0 (st' := ⟨mkT 40 [(2, .ex (.int .i64 (↑m : Int))), (9, .ex (.int .i64 (↑a : Int))), (10, .ex (.bool true)), (11, .ex (.int .i64 (↑n : Int))), (12, .ex (.bool true))], [], 0⟩) (obs := [Ob.call (fun g => List.lookup g []) 25 [.ex (.float FloatKind.f64 y), .ex (.int .i64 (↑m : Int))] [] { val := .tup [.ex (.int .i64 (↑n : Int)), .ex (.bool true)] }]) (by kernel_rfl) (by kernel_rfl) ⟨((c2 ).gl), trivial⟩ ?_
        refine AG.rk 2 [2, 9, 10, 11, 12] [] 0 (todo' := [.code (sub (codeOf Try.f16) [1, 1, 1, 0, 0]), .code (sub (codeOf Try.f16) [1, 1, 1, 0, 1]), .code (sub (codeOf Try.f16) [1, 1, 1, 1])]) (st' := ⟨mkT 40 [(2, .ex (.int .i64 (↑m : Int))), (9, .ex (.int .i64 (↑a : Int))), (10, .ex (.bool true)), (11, .ex (.int .i64 (↑n : Int))), (12, .ex (.bool true))], [], 0⟩) (by kernel_rfl) (by kernel_rfl) ?_
        refine AG.gk [] [(9, { val := .ex (.int .i64 (↑(a + n) : Int)) }), (11, { val := .ex (.bool true) })] [9, 11, 37] [] 0 (st' := ⟨mkT 40 [(9, .ex (.int .i64 (↑a : Int))), (11, .ex (.int .i64 (↑n : Int))), (37, .ex (.bool true))], [], 0⟩) (obs := [Ob.eq (.ex (.int .i64 (IntKind.wrap .i64 ((↑a : Int) + (↑n : Int))))) (.ex (.int .i64 (↑(a + n) : Int))), Ob.eq (.ex (.bool (decide ((↑(a + n) : Int) > (↑m : Int))))) (.ex (.bool true))]) (by kernel_rfl) (by kernel_rfl) ⟨(by simp only [Ob.holds, e1]), (by simp only [Ob.holds, e2]), trivial⟩ ?_
        refine AG.rk 3 [6, 7, 8] [] 0 (todo' := [.code (sub (codeOf Try.f16) [1, 1, 1, 0, 1, 0, 1]), .code (sub (codeOf Try.f16) [1, 1, 1, 1])]) (st' := ⟨mkT 40 [(6, .ex (.int .i64 0)), (7, .ex (.int .i64 0)), (8, .ex (.bool false))], [], 0⟩) (by kernel_rfl) (by kernel_rfl) ?_
        refine AG.fin ([.ex (.int .i64 0), .ex (.int .i64 0), .ex (.bool false)]) Go.Proofs.Try.f16 fn16 (.inr ⟨_, rfl⟩) (obs := []) (by kernel_rfl) trivial (by kernel_rfl) trivial (by kernel_rfl)
theorem of_gen (bs : List Int) (hl : bs.length ≤ 70000) (a n x y : Nat) (h : a + n ≤ bs.length) (ca : CallOK Try.prog (fun _ => none) 23 [.ex (.complex .f64 x y), .ex (.int .i64 (bs.length : Int))] [] { val := .tup [.ex (.int .i64 (a : Int)), .ex (.int .i64 (n : Int)), .ex (.bool true)] }) : CallOK Try.prog (fun _ => none) 14 [.sv 0 0 bs.length, .ex (.complex .f64 x y)] [(0, .view (bs.map (Value.int .u8)))] { val := .tup [.s 1 0 n n, .ex (.bool true)], upd := [(1, .own (ar8 n fun j => bAt bs (((a + j : Nat) : Int))))], nks := [1] } := by
  have hla : (ar8 n fun _ => (0 : Int)).length = n := length_ar8 _ _
  refine CallOK.from0 hmix Try.f14 1 fn14 (by kernel_rfl) (by kernel_rfl) (fun w ρ h1 h2 => ?_)
  refine AG.rk 3 [0, 1] [0] 1 (todo' := [.code (sub (codeOf Try.f14) [1, 0]), .code (sub (codeOf Try.f14) [1, 1])]) (st' := ⟨mkT 28 [(0, .sv 0 0 (List.length bs)), (1, .ex (.complex FloatKind.f64 x y))], [(0, .view (List.map (Value.int .u8) bs))], 1⟩) (by kernel_rfl) (by kernel_rfl) ?_
  refine AG.gk [] [(3, { val := .tup [.ex (.int .i64 (↑a : Int)), .ex (.int .i64 (↑n : Int)), .ex (.bool true)] })] [0, 6, 7, 8] [0] 1 (st' := ⟨mkT 28 [(0, .sv 0 0 (List.length bs)), (6, .ex (.int .i64 (↑a : Int))), (7, .ex (.int .i64 (↑n : Int))), (8, .ex (.bool true))], [(0, .view (List.map (Value.int .u8) bs))], 1⟩) (obs := [Ob.call (fun g => List.lookup g []) 23 [.ex (.complex FloatKind.f64 x y), .ex (.int .i64 (↑(List.length bs) : Int))] [] { val := .tup [.ex (.int .i64 (↑a : Int)), .ex (.int .i64 (↑n : Int)), .ex (.bool true)] }]) (by kernel_rfl) (by kernel_rfl) ⟨((ca ).gl), trivial⟩ ?_
  refine AG.rk 6 [0, 6, 7] [0] 1 (todo' := [.code (sub (codeOf Try.f14) [1, 1, 1, 0]), .code (sub (codeOf Try.f14) [1, 1, 1, 1])]) (st' := ⟨mkT 28 [(0, .sv 0 0 (List.length bs)), (6, .ex (.int .i64 (↑a : Int))), (7, .ex (.int .i64 (↑n : Int)))], [(0, .view (List.map (Value.int .u8) bs))], 1⟩) (by kernel_rfl) (by kernel_rfl) ?_
  refine AG.gk [] [(1, { val := .s 5 0 n n })] [0, 6, 9] [0, 5] 6 (st' := ⟨mkT 28 [(0, .sv 0 0 (List.length bs)), (6, .ex (.int .i64 (↑a : Int))), (9, .s 5 0 n n)], [(0, .view (List.map (Value.int .u8) bs)), (5, .own (List.replicate (Int.toNat (↑n : Int)) (Value.int .u8 0)))], 6⟩) (obs := [Ob.eq (.s 5 0 (Int.toNat (↑n : Int)) (Int.toNat (↑n : Int))) (.s 5 0 n n), Ob.ix (↑n : Int) (Int.toNat (↑n : Int) + 1), Ob.ix (↑n : Int) 9223372036854775808, Ob.le (1 * Int.toNat (↑n : Int)) 281474976710656]) (by kernel_rfl) (by kernel_rfl) ⟨(by simp only [Ob.holds, Int.toNat_natCast]), (by (simp only [Ob.holds]; omega)), (by (simp only [Ob.holds]; omega)), (by (simp only [Ob.holds]; omega)), trivial⟩ ?_
  refine AG.rk 1 [0, 6, 9] [0, 5] 6 (todo' := [.code (sub (codeOf Try.f14) [1, 1, 1, 1, 0]), .code (sub (codeOf Try.f14) [1, 1, 1, 1, 1])]) (st' := ⟨mkT 28 [(0, .sv 0 0 (List.length bs)), (6, .ex (.int .i64 (↑a : Int))), (9, .s 5 0 n n)], [(0, .view (List.map (Value.int .u8) bs)), (5, .own (List.replicate (Int.toNat (↑n : Int)) (Value.int .u8 0)))], 6⟩) (by kernel_rfl) (by kernel_rfl) ?_
  refine AG.gk [4] [(3, { val := .sv 0 (0 + a * 1) (List.length bs - a) })] [9] [0, 5] 6 (st' := ⟨mkT 28 [(9, .s 5 0 n n)], [(0, .view (List.map (Value.int .u8) bs)), (5, .own (ovr (List.replicate (Int.toNat (↑n : Int)) (Value.int .u8 0)) 0 (List.take (min (List.length (List.take (List.length bs - a) (List.drop (0 + a * 1) (List.map (Value.int .u8) bs)))) n) (List.take (List.length bs - a) (List.drop (0 + a * 1) (List.map (Value.int .u8) bs))))))], 6⟩) (obs := [Ob.eq (.sv 0 (0 + Int.toNat (↑a : Int) * 1) (List.length bs - Int.toNat (↑a : Int))) (.sv 0 (0 + a * 1) (List.length bs - a)), Ob.ix (↑(List.length bs) : Int) (List.length bs + 1), Ob.ix (↑a : Int) (List.length bs + 1), Ob.le (0 + n) (List.length (List.replicate (Int.toNat (↑n : Int)) (Value.int .u8 0))), Ob.one (List.take (List.length bs - a) (List.drop (0 + a * 1) (List.map (Value.int .u8) bs))), Ob.le (0 + a * 1 + (List.length bs - a)) (List.length (List.map (Value.int .u8) bs))]) (by kernel_rfl) (by kernel_rfl) ⟨(by simp only [Ob.holds, Int.toNat_natCast]), (by (simp only [Ob.holds]; omega)), (by (simp only [Ob.holds]; omega)), (by (simp [Ob.holds]; done)), (by exact one_take (one_drop (one_map _ _) _) _), (by (simp [Ob.holds]; omega)), trivial⟩ ?_
  refine AG.rk 2 [4, 5] [0, 5] 6 (todo' := [.code (sub (codeOf Try.f14) [1, 1, 0, 1, 0, 1])]) (st' := ⟨mkT 28 [(4, .s 5 0 n n), (5, .ex (.bool true))], [(0, .view (List.map (Value.int .u8) bs)), (5, .own (ovr (List.replicate (Int.toNat (↑n : Int)) (Value.int .u8 0)) 0 (List.take (min (List.length (List.take (List.length bs - a) (List.drop (0 + a * 1) (List.map (Value.int .u8) bs)))) n) (List.take (List.length bs - a) (List.drop (0 + a * 1) (List.map (Value.int .u8) bs))))))], 6⟩) (by kernel_rfl) (by kernel_rfl) ?_
  refine AG.ren 5 1 (st' := ⟨mkT 28 [(4, .s 1 0 n n), (5, .ex (.bool true))], [(0, .view (List.map (Value.int .u8) bs)), (1, .own (ovr (List.replicate (Int.toNat (↑n : Int)) (Value.int .u8 0)) 0 (List.take (min (List.length (List.take (List.length bs - a) (List.drop (0 + a * 1) (List.map (Value.int .u8) bs)))) n) (List.take (List.length bs - a) (List.drop (0 + a * 1) (List.map (Value.int .u8) bs))))))], 6⟩) (by kernel_rfl) (by kernel_rfl) ?_
  refine AG.fin ([.s 1 0 n n, .ex (.bool true)]) Go.Proofs.Try.f14 fn14 (.inr ⟨_, rfl⟩) (obs := []) (by kernel_rfl) trivial (by kernel_rfl) ⟨?_, trivial⟩ (by kernel_rfl)
  exact congrArg (fun z => some (Blk.own z)) (ofcells bs a n h)
theorem of_no (bs : List Int) (x y : Nat) (ca : CallOK Try.prog (fun _ => none) 23 [.ex (.complex .f64 x y), .ex (.int .i64 (bs.length : Int))] [] { val := .tup [.ex (.int .i64 0), .ex (.int .i64 0), .ex (.bool false)] }) : CallOK Try.prog (fun _ => none) 14 [.sv 0 0 bs.length, .ex (.complex .f64 x y)] [(0, .view (bs.map (Value.int .u8)))] { val := .tup [.ex (.slice none 0 0), .ex (.bool false)] } := by
  refine CallOK.from0 hmix Try.f14 1 fn14 (by kernel_rfl) (by kernel_rfl) (fun w ρ h1 h2 => ?_)
  refine AG.rk 3 [0, 1] [0] 1 (todo' := [.code (sub (codeOf Try.f14) [1, 0]), .code (sub (codeOf Try.f14) [1, 1])]) (st' := ⟨mkT 28 [(0, .sv 0 0 (List.length bs)), (1, .ex (.complex FloatKind.f64 x y))], [(0, .view (List.map (Value.int .u8) bs))], 1⟩) (by kernel_rfl) (by kernel_rfl) ?_
  refine AG.gk [] [(3, { val := .tup [.ex (.int .i64 0), .ex (.int .i64 0), .ex (.bool false)] })] [0, 6, 7, 8] [0] 1 (st' := ⟨mkT 28 [(0, .sv 0 0 (List.length bs)), (6, .ex (.int .i64 0)), (7, .ex (.int .i64 0)), (8, .ex (.bool false))], [(0, .view (List.map (Value.int .u8) bs))], 1⟩) (obs := [Ob.call (fun g => List.lookup g []) 23 [.ex (.complex FloatKind.f64 x y), .ex (.int .i64 (↑(List.length bs) : Int))] [] { val := .tup [.ex (.int .i64 0), .ex (.int .i64 0), .ex (.bool false)] }]) (by kernel_rfl) (by kernel_rfl) ⟨((ca ).gl), trivial⟩ ?_
  refine AG.rk 6 [4, 5] [0] 1 (todo' := [.code (sub (codeOf Try.f14) [1, 1, 0, 1, 0, 1]), .code (sub (codeOf Try.f14) [1, 1, 1])]) (st' := ⟨mkT 28 [(4, .ex (.slice none 0 0)), (5, .ex (.bool false))], [(0, .view (List.map (Value.int .u8) bs))], 1⟩) (by kernel_rfl) (by kernel_rfl) ?_
  refine AG.fin ([.ex (.slice none 0 0), .ex (.bool false)]) Go.Proofs.Try.f14 fn14 (.inr ⟨_, rfl⟩) (obs := []) (by kernel_rfl) trivial (by kernel_rfl) trivial (by kernel_rfl)
theorem halves_gen (bs : List Int) (h8 : All8 bs) (hl : bs.length ≤ 4000) (a n x y : Nat) (h : a + n ≤ 2 * bs.length) (ca : CallOK Try.prog (fun _ => none) 23 [.ex (.complex .f64 x y), .ex (.int .i64 ((2 * bs.length : Nat) : Int))] [] { val := .tup [.ex (.int .i64 (a : Int)), .ex (.int .i64 (n : Int)), .ex (.bool true)] }) : CallOK Try.prog (fun _ => none) 15 [.sv 0 0 bs.length, .ex (.complex .f64 x y)] [(0, .view (bs.map (Value.int .u8)))] { val := .tup [.s 1 0 n n, .ex (.bool true)], upd := [(1, .own (ar8 n fun j => hvb bs (a + j)))], nks := [1] } := by
  have e0 : IntKind.i64.wrap (2 * (bs.length : Int)) = ((2 * bs.length : Nat) : Int) := by rw [wrap64_id _ (by omega) (by omega)]; omega
  refine CallOK.from0 hmix Try.f15 1 fn15 (by kernel_rfl) (by kernel_rfl) (fun w ρ h1 h2 => ?_)
  refine AG.rk 3 [0, 1] [0] 1 (todo' := [.code (sub (codeOf Try.f15) [1, 0]), .code (sub (codeOf Try.f15) [1, 1])]) (st' := ⟨mkT 46 [(0, .sv 0 0 (List.length bs)), (1, .ex (.complex FloatKind.f64 x y))], [(0, .view (List.map (Value.int .u8) bs))], 1⟩) (by kernel_rfl) (by kernel_rfl) ?_
  refine AG.gk [] [(3, { val := .ex (.int .i64 (↑(2 * List.length bs) : Int)) }), (4, { val := .tup [.ex (.int .i64 (↑a : Int)), .ex (.int .i64 (↑n : Int)), .ex (.bool true)] })] [0, 6, 7, 8] [0] 1 (st' := ⟨mkT 46 [(0, .sv 0 0 (List.length bs)), (6, .ex (.int .i64 (↑a : Int))), (7, .ex (.int .i64 (↑n : Int))), (8, .ex (.bool true))], [(0, .view (List.map (Value.int .u8) bs))], 1⟩) (obs := [Ob.eq (.ex (.int .i64 (IntKind.wrap .i64 (2 * (↑(List.length bs) : Int))))) (.ex (.int .i64 (↑(2 * List.length bs) : Int))), Ob.call (fun g => List.lookup g []) 23 [.ex (.complex FloatKind.f64 x y), .ex (.int .i64 (↑(2 * List.length bs) : Int))] [] { val := .tup [.ex (.int .i64 (↑a : Int)), .ex (.int .i64 (↑n : Int)), .ex (.bool true)] }]) (by kernel_rfl) (by kernel_rfl) ⟨(by simp only [Ob.holds, e0]), ((ca ).gl), trivial⟩ ?_
  refine AG.rk 6 [0, 6, 7] [0] 1 (todo' := [.code (sub (codeOf Try.f15) [1, 1, 1, 0]), .code (sub (codeOf Try.f15) [1, 1, 1, 1])]) (st' := ⟨mkT 46 [(0, .sv 0 0 (List.length bs)), (6, .ex (.int .i64 (↑a : Int))), (7, .ex (.int .i64 (↑n : Int)))], [(0, .view (List.map (Value.int .u8) bs))], 1⟩) (by kernel_rfl) (by kernel_rfl) ?_
  refine AG.gk [] [(1, { val := .s 5 0 n n })] [0, 6, 7, 9] [0, 5] 6 (st' := ⟨mkT 46 [(0, .sv 0 0 (List.length bs)), (6, .ex (.int .i64 (↑a : Int))), (7, .ex (.int .i64 (↑n : Int))), (9, .s 5 0 n n)], [(0, .view (List.map (Value.int .u8) bs)), (5, .own (List.replicate (Int.toNat (↑n : Int)) (Value.int .u8 0)))], 6⟩) (obs := [Ob.eq (.s 5 0 (Int.toNat (↑n : Int)) (Int.toNat (↑n : Int))) (.s 5 0 n n), Ob.ix (↑n : Int) (Int.toNat (↑n : Int) + 1), Ob.ix (↑n : Int) 9223372036854775808, Ob.le (1 * Int.toNat (↑n : Int)) 281474976710656]) (by kernel_rfl) (by kernel_rfl) ⟨(by simp only [Ob.holds, Int.toNat_natCast]), (by (simp only [Ob.holds]; omega)), (by (simp only [Ob.holds]; omega)), (by (simp only [Ob.holds]; omega)), trivial⟩ ?_
  refine AG.rk 4 [0, 6, 9, 25, 26] [0, 5] 6 (todo' := [.code (sub (codeOf Try.f15) [1, 1, 1, 1, 0, 1, 0]), .inBlock 0, .code (sub (codeOf Try.f15) [1, 1, 1, 1, 1])]) (st' := ⟨mkT 46 [(0, .sv 0 0 (List.length bs)), (6, .ex (.int .i64 (↑a : Int))), (9, .s 5 0 n n), (25, .ex (.int .i64 (↑n : Int))), (26, .ex (.int .i64 0))], [(0, .view (List.map (Value.int .u8) bs)), (5, .own (List.replicate (Int.toNat (↑n : Int)) (Value.int .u8 0)))], 6⟩) (by kernel_rfl) (by kernel_rfl) ?_
  refine AG.rk 1 [0, 6, 9, 25, 26] [0, 5] 6 (todo' := [.code (sub (codeOf Try.f15) [1, 1, 1, 1, 0, 1, 0, 0]), .inLoop (sub (codeOf Try.f15) [1, 1, 1, 1, 0, 1, 0, 0]), .inBlock 0, .code (sub (codeOf Try.f15) [1, 1, 1, 1, 1])]) (st' := ⟨mkT 46 [(0, .sv 0 0 (List.length bs)), (6, .ex (.int .i64 (↑a : Int))), (9, .s 5 0 n n), (25, .ex (.int .i64 (↑n : Int))), (26, .ex (.int .i64 0))], [(0, .view (List.map (Value.int .u8) bs)), (5, .own (List.replicate (Int.toNat (↑n : Int)) (Value.int .u8 0)))], 6⟩) (by kernel_rfl) (by kernel_rfl) ?_
  rewrite [Int.toNat_natCast, rep_ar8]
  refine AG.indE (α := {x : Nat × (Nat → Int) // x.1 ≤ n ∧ ∀ j, j < n → x.2 j = if j < x.1 then hvb bs (a + j) else 0}) (fun x => n - x.1.1)
    (fun x => ⟨mkT 46 [(0, .sv 0 0 bs.length), (6, .ex (.int .i64 (a : Int))), (9, .s 5 0 n n), (25, .ex (.int .i64 (n : Int))), (26, .ex (.int .i64 (x.1.1 : Int)))], [(0, .view (List.map (Value.int .u8) bs)), (5, .own (ar8 n x.1.2))], 6⟩) ⟨(0, fun _ => 0), by simp, fun j _ => by simp⟩ (by kernel_rfl) ?_
  rintro ⟨⟨i, f⟩, hi, hf⟩ ih
  simp only at hi hf ih ⊢
  have hla : (ar8 n f).length = n := length_ar8 _ _
  refine AG.rk 3 [0, 6, 9, 25, 26, 27] [0, 5] 6 (todo' := [.code (sub (codeOf Try.f15) [1, 1, 1, 1, 0, 1, 0, 0, 1, 0]), .code (sub (codeOf Try.f15) [1, 1, 1, 1, 0, 1, 0, 0, 1, 1]), .inLoop (sub (codeOf Try.f15) [1, 1, 1, 1, 0, 1, 0, 0]), .inBlock 0, .code (sub (codeOf Try.f15) [1, 1, 1, 1, 1])]) (st' := ⟨mkT 46 [(0, .sv 0 0 (List.length bs)), (6, .ex (.int .i64 (↑a : Int))), (9, .s 5 0 n n), (25, .ex (.int .i64 (↑n : Int))), (26, .ex (.int .i64 (↑i : Int))), (27, .ex (.bool (decide ((↑i : Int) < (↑n : Int)))))], [(0, .view (List.map (Value.int .u8) bs)), (5, .own (ar8 n f))], 6⟩) (by kernel_rfl) (by kernel_rfl) ?_
  refine AG.cond (b := decide ((↑i : Int) < (↑n : Int))) (by kernel_rfl) (fun hc => ?_) (fun hc => ?_)
  · have hi' : i < n := by simp at hc; omega
    clear hc
    obtain ⟨j, hj⟩ : ∃ j, j = a + i := ⟨_, rfl⟩
    have cs := shift_ok j (by omega)
    have e1 : IntKind.i64.wrap ((a : Int) + (i : Int)) = (j : Int) := by rw [wrap64_id _ (by omega) (by omega)]; omega
    have e2 : IntKind.i64.wrap ((j : Int).tdiv 2) = ((j / 2 : Nat) : Int) := by rw [Int.tdiv_eq_ediv_of_nonneg (by omega), wrap64_id _ (by omega) (by omega)]; omega
    have ea : (List.map (Value.int .u8) bs).getD (0 + ((j / 2 : Nat) : Int).toNat * 1) undef = .int .u8 (bAt bs ((j / 2 : Nat) : Int)) := by rw [Nat.zero_add, Nat.mul_one]; exact map_get bs _ (by omega) (by omega) _ _
    have e3 : (i : Int) + 1 = ((i + 1 : Nat) : Int) := by omega
    have e5 : IntKind.i64.wrap ((i : Int) + 1) = ((i + 1 : Nat) : Int) := by rw [wrap64_id _ (by omega) (by omega)]; omega
    have hV := hv_eq bs h8 j
    refine AG.rk 6 [0, 6, 9, 10, 25, 26] [0, 5] 6 (todo' := [.code (sub (codeOf Try.f15) [1, 1, 1, 1, 0, 1, 0, 0, 1, 1, 0, 0, 1, 0]), .code (sub (codeOf Try.f15) [1, 1, 1, 1, 0, 1, 0, 0, 1, 1, 0, 0, 1, 1]), .inBlock 1, .code (sub (codeOf Try.f15) [1, 1, 1, 1, 0, 1, 0, 0, 1, 1, 1]), .inLoop (sub (codeOf Try.f15) [1, 1, 1, 1, 0, 1, 0, 0]), .inBlock 0, .code (sub (codeOf Try.f15) [1, 1, 1, 1, 1])]) (st' := ⟨mkT 46 [(0, .sv 0 0 (List.length bs)), (6, .ex (.int .i64 (↑a : Int))), (9, .s 5 0 n n), (10, .ex (.int .i64 (↑i : Int))), (25, .ex (.int .i64 (↑n : Int))), (26, .ex (.int .i64 (↑i : Int)))], [(0, .view (List.map (Value.int .u8) bs)), (5, .own (ar8 n f))], 6⟩) (by kernel_rfl) (by kernel_rfl) ?_
    refine AG.gk [] [(2, { val := .ex (.int .i64 (↑j : Int)) })] [0, 6, 9, 10, 11, 25, 26] [0, 5] 6 (st' := ⟨mkT 46 [(0, .sv 0 0 (List.length bs)), (6, .ex (.int .i64 (↑a : Int))), (9, .s 5 0 n n), (10, .ex (.int .i64 (↑i : Int))), (11, .ex (.int .i64 (↑j : Int))), (25, .ex (.int .i64 (↑n : Int))), (26, .ex (.int .i64 (↑i : Int)))], [(0, .view (List.map (Value.int .u8) bs)), (5, .own (ar8 n f))], 6⟩) (obs := [Ob.eq (.ex (.int .i64 (IntKind.wrap .i64 ((↑a : Int) + (↑i : Int))))) (.ex (.int .i64 (↑j : Int)))]) (by kernel_rfl) (by kernel_rfl) ⟨(by simp only [Ob.holds, e1]), trivial⟩ ?_
    refine AG.gk [5, 11, 12] [(4, { val := .ex (.int .i64 (↑(j / 2) : Int)) }), (6, { val := .ex (.int .u8 (bAt bs (↑(j / 2) : Int))) }), (8, { val := .ex (.int .i64 (↑(4 - j % 2 * 4) : Int)) }), (10, { val := .ex (.int .u8 (hvb bs j)) })] [0, 6, 9, 25, 26] [0, 5] 6 (st' := ⟨mkT 46 [(0, .sv 0 0 (List.length bs)), (6, .ex (.int .i64 (↑a : Int))), (9, .s 5 0 n n), (25, .ex (.int .i64 (↑n : Int))), (26, .ex (.int .i64 (↑i : Int)))], [(0, .view (List.map (Value.int .u8) bs)), (5, .own (putAt (ar8 n f) (0 + Int.toNat (↑i : Int) * 1) (Value.cells (Value.int .u8 (hvb bs j))).toList))], 6⟩) (obs := [Ob.eq (.ex (.int .i64 (IntKind.wrap .i64 (Int.tdiv (↑j : Int) 2)))) (.ex (.int .i64 (↑(j / 2) : Int))), Ob.le 1 2, Ob.ix (↑(j / 2) : Int) (List.length bs), Ob.eq (.ex (List.getD (List.map (Value.int .u8) bs) (0 + Int.toNat (↑(j / 2) : Int) * 1) undef)) (.ex (.int .u8 (bAt bs (↑(j / 2) : Int)))), Ob.le (0 + Int.toNat (↑(j / 2) : Int) * 1 + 1) (List.length (List.map (Value.int .u8) bs)), Ob.call (fun g => List.lookup g []) 24 [.ex (.int .i64 (↑j : Int))] [] { val := .ex (.int .i64 (↑(4 - j % 2 * 4) : Int)) }, Ob.eq (.ex (.int .u8 (IntKind.wrap .u8 (↑(BitVec.toNat (BitVec.ofInt 8 (Int.fdiv (bAt bs (↑(j / 2) : Int)) (2 ^ min (Int.toNat (↑(4 - j % 2 * 4) : Int)) 8)) &&& BitVec.ofInt 8 15)) : Int)))) (.ex (.int .u8 (hvb bs j))), Ob.ix (↑i : Int) n, Ob.le (0 + Int.toNat (↑i : Int) * 1 + 1) (List.length (ar8 n f)), Ob.le 1 1, Ob.le 1 1, Ob.one [Value.int .u8 (hvb bs j)]]) (by kernel_rfl) (by kernel_rfl) ⟨(by simp only [Ob.holds, e2]), (Ob.holds_of_dec (by kernel_rfl)), (by (simp only [Ob.holds]; omega)), (by simp only [Ob.holds, ea]), (by (simp [Ob.holds]; omega)), ((cs ).gl), (by simp only [Ob.holds, hV]), (by (simp only [Ob.holds]; omega)), (by (simp only [Ob.holds]; omega)), (Ob.holds_of_dec (by kernel_rfl)), (Ob.holds_of_dec (by kernel_rfl)), (by rfl), trivial⟩ ?_
    refine AG.rk 3 [0, 6, 9, 25, 26] [0, 5] 6 (todo' := [.code (sub (codeOf Try.f15) [1, 1, 1, 1, 0, 1, 0, 0]), .inLoop (sub (codeOf Try.f15) [1, 1, 1, 1, 0, 1, 0, 0]), .inBlock 0, .code (sub (codeOf Try.f15) [1, 1, 1, 1, 1])]) (st' := ⟨mkT 46 [(0, .sv 0 0 (List.length bs)), (6, .ex (.int .i64 (↑a : Int))), (9, .s 5 0 n n), (25, .ex (.int .i64 (↑n : Int))), (26, .ex (.int .i64 (IntKind.wrap .i64 ((↑i : Int) + 1))))], [(0, .view (List.map (Value.int .u8) bs)), (5, .own (putAt (ar8 n f) (0 + Int.toNat (↑i : Int) * 1) (Value.cells (Value.int .u8 (hvb bs j))).toList))], 6⟩) (by kernel_rfl) (by kernel_rfl) ?_
    rewrite [put_ar8 n f _ (by omega) (by omega), e5, Int.toNat_natCast]
    refine ih ⟨(i + 1, upd f i (hvb bs j)), hi', fun q hq => ?_⟩ (by simp only; omega)
    simp only
    unfold upd
    by_cases hqi : q = i
    · subst hqi; rw [if_pos rfl, if_pos (by omega), hj]
    · rw [if_neg hqi, hf q hq]
      by_cases h2 : q < i
      · rw [if_pos h2, if_pos (by omega)]
      · rw [if_neg h2, if_neg (by omega)]
  · have hall : ∀ j, j < n → f j = hvb bs (a + j) := fun j hj => by
      have : i = n := by simp at hc; omega
      rw [hf j hj, if_pos (by omega)]
    clear hc ih
    rw [ar8_congr hall]
    refine AG.rk 3 [4, 5] [0, 5] 6 (todo' := [.code (sub (codeOf Try.f15) [1, 1, 0, 1, 0, 1])]) (st' := ⟨mkT 46 [(4, .s 5 0 n n), (5, .ex (.bool true))], [(0, .view (List.map (Value.int .u8) bs)), (5, .own (ar8 n fun i => hvb bs (a + i)))], 6⟩) (by kernel_rfl) (by kernel_rfl) ?_
    refine AG.ren 5 1 (st' := ⟨mkT 46 [(4, .s 1 0 n n), (5, .ex (.bool true))], [(0, .view (List.map (Value.int .u8) bs)), (1, .own (ar8 n fun i => hvb bs (a + i)))], 6⟩) (by kernel_rfl) (by kernel_rfl) ?_
    refine AG.fin ([.s 1 0 n n, .ex (.bool true)]) Go.Proofs.Try.f15 fn15 (.inr ⟨_, rfl⟩) (obs := []) (by kernel_rfl) trivial (by kernel_rfl) ⟨(by kernel_rfl), trivial⟩ (by kernel_rfl)
theorem halves_no (bs : List Int) (hl : bs.length ≤ 4000) (x y : Nat) (ca : CallOK Try.prog (fun _ => none) 23 [.ex (.complex .f64 x y), .ex (.int .i64 ((2 * bs.length : Nat) : Int))] [] { val := .tup [.ex (.int .i64 0), .ex (.int .i64 0), .ex (.bool false)] }) : CallOK Try.prog (fun _ => none) 15 [.sv 0 0 bs.length, .ex (.complex .f64 x y)] [(0, .view (bs.map (Value.int .u8)))] { val := .tup [.ex (.slice none 0 0), .ex (.bool false)] } := by
  have e0 : IntKind.i64.wrap (2 * (bs.length : Int)) = ((2 * bs.length : Nat) : Int) := by rw [wrap64_id _ (by omega) (by omega)]; omega
  refine CallOK.from0 hmix Try.f15 1 fn15 (by kernel_rfl) (by kernel_rfl) (fun w ρ h1 h2 => ?_)
  refine AG.rk 3 [0, 1] [0] 1 (todo' := [.code (sub (codeOf Try.f15) [1, 0]), .code (sub (codeOf Try.f15) [1, 1])]) (st' := ⟨mkT 46 [(0, .sv 0 0 (List.length bs)), (1, .ex (.complex FloatKind.f64 x y))], [(0, .view (List.map (Value.int .u8) bs))], 1⟩) (by kernel_rfl) (by kernel_rfl) ?_
  refine AG.gk [] [(3, { val := .ex (.int .i64 (↑(2 * List.length bs) : Int)) }), (4, { val := .tup [.ex (.int .i64 0), .ex (.int .i64 0), .ex (.bool false)] })] [0, 6, 7, 8] [0] 1 (st' := ⟨mkT 46 [(0, .sv 0 0 (List.length bs)), (6, .ex (.int .i64 0)), (7, .ex (.int .i64 0)), (8, .ex (.bool false))], [(0, .view (List.map (Value.int .u8) bs))], 1⟩) (obs := [Ob.eq (.ex (.int .i64 (IntKind.wrap .i64 (2 * (↑(List.length bs) : Int))))) (.ex (.int .i64 (↑(2 * List.length bs) : Int))), Ob.call (fun g => List.lookup g []) 23 [.ex (.complex FloatKind.f64 x y), .ex (.int .i64 (↑(2 * List.length bs) : Int))] [] { val := .tup [.ex (.int .i64 0), .ex (.int .i64 0), .ex (.bool false)] }]) (by kernel_rfl) (by kernel_rfl) ⟨(by simp only [Ob.holds, e0]), ((ca ).gl), trivial⟩ ?_
  refine AG.rk 6 [4, 5] [0] 1 (todo' := [.code (sub (codeOf Try.f15) [1, 1, 0, 1, 0, 1]), .code (sub (codeOf Try.f15) [1, 1, 1])]) (st' := ⟨mkT 46 [(4, .ex (.slice none 0 0)), (5, .ex (.bool false))], [(0, .view (List.map (Value.int .u8) bs))], 1⟩) (by kernel_rfl) (by kernel_rfl) ?_
  refine AG.fin ([.ex (.slice none 0 0), .ex (.bool false)]) Go.Proofs.Try.f15 fn15 (.inr ⟨_, rfl⟩) (obs := []) (by kernel_rfl) trivial (by kernel_rfl) trivial (by kernel_rfl)
end Go.Proofs.Ytngmlkkcjjfiaaa.Ab
