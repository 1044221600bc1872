/- Own: cuts of any two floats (no statement is proved here). -/
import Derived.Test.YtngmlkkcjjfiaaaF14
import Derived.Test.YtngmlkkcjjfiaaaF6
import Derived.KernelRfl
namespace Go.Proofs.Ytngmlkkcjjfiaaa.Ab
open Go.Proofs
open Ieee (double)
set_option linter.unusedSimpArgs false
set_option linter.unusedVariables false
set_option maxRecDepth 4000
theorem fn25 : Try.prog.funcs[25]? = some Try.f25 := by kernel_rfl
theorem fn16 : Try.prog.funcs[16]? = some Try.f16 := by kernel_rfl
theorem fn4 : Try.prog.funcs[4]? = some Try.f4 := by kernel_rfl
/-- A number and whether it is one, of a float and the most. -/
def nOf (x m : Nat) (r : Option Nat) : Prop := match r with
  | some n => IsNum x m n
  | none => NoNum x m
theorem nOf_or (x m : Nat) (hm : m < 2 ^ 40) : ∃ r, nOf x m r := by
  rcases num_or x m hm with ⟨n, h⟩ | h
  · exact ⟨some n, h⟩
  · exact ⟨none, h⟩
def rN : Option Nat → Int
  | some n => (n : Int)
  | none => 0
theorem numx_ok (x m : Nat) (hm : m < 2 ^ 40) (r : Option Nat) (hr : nOf x m r) : CallOK Try.prog (fun _ => none) 26 [.ex (.float .f64 x), .p 0 0] [(0, .own [.int .i64 (m : Int)])] { val := .tup [.ex (.int .i64 (rN r)), .ex (.bool r.isSome)], upd := [(0, .own [.int .i64 (m : Int)])], wks := [0] } := by
  obtain ⟨y, hy⟩ : ∃ y, y = fb m := ⟨_, rfl⟩
  cases r with
  | some n =>
    have h : IsNum x m n := hr
    have ct := trunc_ok x h.nan
    have q0 : (Ieee.Format.order (FloatKind.format FloatKind.f64) x 0 == some Ordering.gt || Ieee.Format.order (FloatKind.format FloatKind.f64) x 0 == some Ordering.eq) = true := h.ge0
    have q1 : (Ieee.Format.order (FloatKind.format FloatKind.f64) x (fb m) == some Ordering.lt || Ieee.Format.order (FloatKind.format FloatKind.f64) x (fb m) == some Ordering.eq) = true := h.leM
    have q2 : (Ieee.Format.order (FloatKind.format FloatKind.f64) x (truncB x) == some Ordering.eq) = true := h.eqT
    have q3 : (floatToIntVal .f64 x .i64).getD 0 = (n : Int) := by rw [h.int]; rfl
    have q4 : 1 ≤ fok (floatToIntVal .f64 x .i64) := by rw [h.int]; exact Nat.le_refl 1
    rw [← hy] at q1
    generalize truncB x = z at *
    refine CallOK.from0 hmix Try.f26 1 fn26 (by kernel_rfl) (by kernel_rfl) (fun w ρ h1 h2 => ?_)
    refine AG.rk 4 [0, 1] [0] 1 (todo' := [.code (sub (codeOf Try.f26) [1, 0, 0]), .code (sub (codeOf Try.f26) [1, 0, 1]), .code (sub (codeOf Try.f26) [1, 1])]) (st' := ⟨mkT 21 [(0, .ex (.float FloatKind.f64 x)), (1, .p 0 0)], [(0, .own [Value.int .i64 (↑m : Int)])], 1⟩) (by kernel_rfl) (by kernel_rfl) ?_
    refine AG.gk [] [(1, { val := .ex (.bool true) }), (5, { val := .ex (.float FloatKind.f64 y) }), (6, { val := .ex (.bool true) }), (11, { val := .ex (.float FloatKind.f64 z) }), (12, { val := .ex (.bool true) })] [0, 18] [0] 1 (st' := ⟨mkT 21 [(0, .ex (.float FloatKind.f64 x)), (18, .ex (.bool true))], [(0, .own [Value.int .i64 (↑m : Int)])], 1⟩) (obs := [Ob.eq (.ex (.bool (Ieee.Format.order (FloatKind.format FloatKind.f64) x 0 == some Ordering.gt || Ieee.Format.order (FloatKind.format FloatKind.f64) x 0 == some Ordering.eq))) (.ex (.bool true)), Ob.eq (.ex (.float FloatKind.f64 (fb m))) (.ex (.float FloatKind.f64 y)), Ob.eq (.ex (.bool (Ieee.Format.order (FloatKind.format FloatKind.f64) x y == some Ordering.lt || Ieee.Format.order (FloatKind.format FloatKind.f64) x y == some Ordering.eq))) (.ex (.bool true)), Ob.call (fun g => List.lookup g []) 27 [.ex (.float FloatKind.f64 x)] [] { val := .ex (.float FloatKind.f64 z) }, Ob.eq (.ex (.bool (Ieee.Format.order (FloatKind.format FloatKind.f64) x z == some Ordering.eq))) (.ex (.bool true))]) (by kernel_rfl) (by kernel_rfl) ⟨(by simp only [Ob.holds, q0]), (by simp only [Ob.holds, ← hy]), (by simp only [Ob.holds, q1]), ((ct ).gl), (by simp only [Ob.holds, q2]), trivial⟩ ?_
    refine AG.rk 2 [0] [0] 1 (todo' := [.code (sub (codeOf Try.f26) [1, 0, 1, 0, 0]), .code (sub (codeOf Try.f26) [1, 0, 1, 0, 1]), .code (sub (codeOf Try.f26) [1, 1])]) (st' := ⟨mkT 21 [(0, .ex (.float FloatKind.f64 x))], [(0, .own [Value.int .i64 (↑m : Int)])], 1⟩) (by kernel_rfl) (by kernel_rfl) ?_
    refine AG.gk [] [(1, { val := .ex (.int .i64 (↑n : Int)) })] [3, 4] [0] 1 (st' := ⟨mkT 21 [(3, .ex (.int .i64 (↑n : Int))), (4, .ex (.bool true))], [(0, .own [Value.int .i64 (↑m : Int)])], 1⟩) (obs := [Ob.eq (.ex (.int .i64 (Option.getD (floatToIntVal FloatKind.f64 x .i64) 0))) (.ex (.int .i64 (↑n : Int))), Ob.le 1 (fok (floatToIntVal FloatKind.f64 x .i64))]) (by kernel_rfl) (by kernel_rfl) ⟨(by simp only [Ob.holds, q3]), (by (simp only [Ob.holds]; omega)), trivial⟩ ?_
    refine AG.fin ([.ex (.int .i64 (↑n : Int)), .ex (.bool true)]) Go.Proofs.Try.f26 fn26 (.inr ⟨_, rfl⟩) (obs := []) (by kernel_rfl) trivial (by kernel_rfl) ⟨(by kernel_rfl), trivial⟩ (by kernel_rfl)
  | none =>
    have h : NoNum x m := hr
    cases h with
    | low q0 _ =>
      have q0 : (Ieee.Format.order (FloatKind.format FloatKind.f64) x 0 == some Ordering.gt || Ieee.Format.order (FloatKind.format FloatKind.f64) x 0 == some Ordering.eq) = false := q0
      refine CallOK.from0 hmix Try.f26 1 fn26 (by kernel_rfl) (by kernel_rfl) (fun w ρ h1 h2 => ?_)
      refine AG.rk 4 [0, 1] [0] 1 (todo' := [.code (sub (codeOf Try.f26) [1, 0, 0]), .code (sub (codeOf Try.f26) [1, 0, 1]), .code (sub (codeOf Try.f26) [1, 1])]) (st' := ⟨mkT 21 [(0, .ex (.float FloatKind.f64 x)), (1, .p 0 0)], [(0, .own [Value.int .i64 (↑m : Int)])], 1⟩) (by kernel_rfl) (by kernel_rfl) ?_
      refine AG.gk [] [(1, { val := .ex (.bool false) })] [0, 18] [0] 1 (st' := ⟨mkT 21 [(0, .ex (.float FloatKind.f64 x)), (18, .ex (.bool false))], [(0, .own [Value.int .i64 (↑m : Int)])], 1⟩) (obs := [Ob.eq (.ex (.bool (Ieee.Format.order (FloatKind.format FloatKind.f64) x 0 == some Ordering.gt || Ieee.Format.order (FloatKind.format FloatKind.f64) x 0 == some Ordering.eq))) (.ex (.bool false))]) (by kernel_rfl) (by kernel_rfl) ⟨(by simp only [Ob.holds, q0]), trivial⟩ ?_
      refine AG.rk 4 [3, 4] [0] 1 (todo' := [.code (sub (codeOf Try.f26) [1, 0, 1, 0, 1])]) (st' := ⟨mkT 21 [(3, .ex (.int .i64 0)), (4, .ex (.bool false))], [(0, .own [Value.int .i64 (↑m : Int)])], 1⟩) (by kernel_rfl) (by kernel_rfl) ?_
      refine AG.fin ([.ex (.int .i64 0), .ex (.bool false)]) Go.Proofs.Try.f26 fn26 (.inr ⟨_, rfl⟩) (obs := []) (by kernel_rfl) trivial (by kernel_rfl) ⟨(by kernel_rfl), trivial⟩ (by kernel_rfl)
    | high q0 q1 _ =>
      have q0 : (Ieee.Format.order (FloatKind.format FloatKind.f64) x 0 == some Ordering.gt || Ieee.Format.order (FloatKind.format FloatKind.f64) x 0 == some Ordering.eq) = true := q0
      have q1 : (Ieee.Format.order (FloatKind.format FloatKind.f64) x (fb m) == some Ordering.lt || Ieee.Format.order (FloatKind.format FloatKind.f64) x (fb m) == some Ordering.eq) = false := q1
      rw [← hy] at q1
      refine CallOK.from0 hmix Try.f26 1 fn26 (by kernel_rfl) (by kernel_rfl) (fun w ρ h1 h2 => ?_)
      refine AG.rk 4 [0, 1] [0] 1 (todo' := [.code (sub (codeOf Try.f26) [1, 0, 0]), .code (sub (codeOf Try.f26) [1, 0, 1]), .code (sub (codeOf Try.f26) [1, 1])]) (st' := ⟨mkT 21 [(0, .ex (.float FloatKind.f64 x)), (1, .p 0 0)], [(0, .own [Value.int .i64 (↑m : Int)])], 1⟩) (by kernel_rfl) (by kernel_rfl) ?_
      refine AG.gk [] [(1, { val := .ex (.bool true) }), (5, { val := .ex (.float FloatKind.f64 y) }), (6, { val := .ex (.bool false) })] [0, 18] [0] 1 (st' := ⟨mkT 21 [(0, .ex (.float FloatKind.f64 x)), (18, .ex (.bool false))], [(0, .own [Value.int .i64 (↑m : Int)])], 1⟩) (obs := [Ob.eq (.ex (.bool (Ieee.Format.order (FloatKind.format FloatKind.f64) x 0 == some Ordering.gt || Ieee.Format.order (FloatKind.format FloatKind.f64) x 0 == some Ordering.eq))) (.ex (.bool true)), Ob.eq (.ex (.float FloatKind.f64 (fb m))) (.ex (.float FloatKind.f64 y)), Ob.eq (.ex (.bool (Ieee.Format.order (FloatKind.format FloatKind.f64) x y == some Ordering.lt || Ieee.Format.order (FloatKind.format FloatKind.f64) x y == some Ordering.eq))) (.ex (.bool false))]) (by kernel_rfl) (by kernel_rfl) ⟨(by simp only [Ob.holds, q0]), (by simp only [Ob.holds, ← hy]), (by simp only [Ob.holds, q1]), trivial⟩ ?_
      refine AG.rk 4 [3, 4] [0] 1 (todo' := [.code (sub (codeOf Try.f26) [1, 0, 1, 0, 1])]) (st' := ⟨mkT 21 [(3, .ex (.int .i64 0)), (4, .ex (.bool false))], [(0, .own [Value.int .i64 (↑m : Int)])], 1⟩) (by kernel_rfl) (by kernel_rfl) ?_
      refine AG.fin ([.ex (.int .i64 0), .ex (.bool false)]) Go.Proofs.Try.f26 fn26 (.inr ⟨_, rfl⟩) (obs := []) (by kernel_rfl) trivial (by kernel_rfl) ⟨(by kernel_rfl), trivial⟩ (by kernel_rfl)
    | broken q0 q1 hn q2 _ =>
      have ct := trunc_ok x hn
      have q0 : (Ieee.Format.order (FloatKind.format FloatKind.f64) x 0 == some Ordering.gt || Ieee.Format.order (FloatKind.format FloatKind.f64) x 0 == some Ordering.eq) = true := q0
      have q1 : (Ieee.Format.order (FloatKind.format FloatKind.f64) x (fb m) == some Ordering.lt || Ieee.Format.order (FloatKind.format FloatKind.f64) x (fb m) == some Ordering.eq) = true := q1
      have q2 : (Ieee.Format.order (FloatKind.format FloatKind.f64) x (truncB x) == some Ordering.eq) = false := q2
      rw [← hy] at q1
      generalize truncB x = z at *
      refine CallOK.from0 hmix Try.f26 1 fn26 (by kernel_rfl) (by kernel_rfl) (fun w ρ h1 h2 => ?_)
      refine AG.rk 4 [0, 1] [0] 1 (todo' := [.code (sub (codeOf Try.f26) [1, 0, 0]), .code (sub (codeOf Try.f26) [1, 0, 1]), .code (sub (codeOf Try.f26) [1, 1])]) (st' := ⟨mkT 21 [(0, .ex (.float FloatKind.f64 x)), (1, .p 0 0)], [(0, .own [Value.int .i64 (↑m : Int)])], 1⟩) (by kernel_rfl) (by kernel_rfl) ?_
      refine AG.gk [] [(1, { val := .ex (.bool true) }), (5, { val := .ex (.float FloatKind.f64 y) }), (6, { val := .ex (.bool true) }), (11, { val := .ex (.float FloatKind.f64 z) }), (12, { val := .ex (.bool false) })] [0, 18] [0] 1 (st' := ⟨mkT 21 [(0, .ex (.float FloatKind.f64 x)), (18, .ex (.bool false))], [(0, .own [Value.int .i64 (↑m : Int)])], 1⟩) (obs := [Ob.eq (.ex (.bool (Ieee.Format.order (FloatKind.format FloatKind.f64) x 0 == some Ordering.gt || Ieee.Format.order (FloatKind.format FloatKind.f64) x 0 == some Ordering.eq))) (.ex (.bool true)), Ob.eq (.ex (.float FloatKind.f64 (fb m))) (.ex (.float FloatKind.f64 y)), Ob.eq (.ex (.bool (Ieee.Format.order (FloatKind.format FloatKind.f64) x y == some Ordering.lt || Ieee.Format.order (FloatKind.format FloatKind.f64) x y == some Ordering.eq))) (.ex (.bool true)), Ob.call (fun g => List.lookup g []) 27 [.ex (.float FloatKind.f64 x)] [] { val := .ex (.float FloatKind.f64 z) }, Ob.eq (.ex (.bool (Ieee.Format.order (FloatKind.format FloatKind.f64) x z == some Ordering.eq))) (.ex (.bool false))]) (by kernel_rfl) (by kernel_rfl) ⟨(by simp only [Ob.holds, q0]), (by simp only [Ob.holds, ← hy]), (by simp only [Ob.holds, q1]), ((ct ).gl), (by simp only [Ob.holds, q2]), trivial⟩ ?_
      refine AG.rk 4 [3, 4] [0] 1 (todo' := [.code (sub (codeOf Try.f26) [1, 0, 1, 0, 1])]) (st' := ⟨mkT 21 [(3, .ex (.int .i64 0)), (4, .ex (.bool false))], [(0, .own [Value.int .i64 (↑m : Int)])], 1⟩) (by kernel_rfl) (by kernel_rfl) ?_
      refine AG.fin ([.ex (.int .i64 0), .ex (.bool false)]) Go.Proofs.Try.f26 fn26 (.inr ⟨_, rfl⟩) (obs := []) (by kernel_rfl) trivial (by kernel_rfl) ⟨(by kernel_rfl), trivial⟩ (by kernel_rfl)
end Go.Proofs.Ytngmlkkcjjfiaaa.Ab
