/- Own: cuts of layer 14 (no statement is proved here). -/
import Derived.Test.YtdfbcdgneboilaaDoorF0
import Derived.Test.YtdfbcdgneboilaaDoorN0
import Derived.KernelRfl
namespace Go.Proofs.YtdfbcdgneboilaaDoor.Ab
open Go.Proofs
set_option linter.unusedSimpArgs false
set_option linter.unusedVariables false
set_option maxRecDepth 4000
theorem fn81 : Tryd.prog.funcs[81]? = some Tryd.f81 := by kernel_rfl
theorem fn80 : Tryd.prog.funcs[80]? = some Tryd.f80 := by kernel_rfl
theorem trunc_ok (x : Nat) (h : nanN x ≤ 0) : CallOK Tryd.prog (fun _ => none) 81 [.ex (.float .f64 x)] [] { val := .ex (.float .f64 (truncB x)) } := by
  refine CallOK.from0 hmix Tryd.f81 0 fn81 (by kernel_rfl) (by kernel_rfl) (fun w ρ h1 h2 => ?_)
  refine AG.rk 5 [0] [] 0 (todo' := [.code (sub (codeOf Tryd.f81) [1, 0, 0, 0]), .code (sub (codeOf Tryd.f81) [1, 0, 0, 1]), .code (sub (codeOf Tryd.f81) [1, 1])]) (st' := ⟨mkT 7 [(0, .ex (.float FloatKind.f64 x))], [], 0⟩) (by kernel_rfl) (by kernel_rfl) ?_
  refine AG.gk [1] [] [2] [] 0 (st' := ⟨mkT 7 [(2, .ex (.float FloatKind.f64 (truncB x)))], [], 0⟩) (obs := [Ob.le (nanN x) 0]) (by kernel_rfl) (by kernel_rfl) ⟨(by (simp only [Ob.holds]; omega)), trivial⟩ ?_
  refine AG.fin ([.ex (.float FloatKind.f64 (truncB x))]) Go.Proofs.Tryd.f81 fn81 (.inr ⟨_, rfl⟩) (obs := []) (by kernel_rfl) trivial (by kernel_rfl) trivial (by kernel_rfl)
theorem num_ok (n m : Nat) (hn : n ≤ m) (hm : m < 2 ^ 40) : CallOK Tryd.prog (fun _ => none) 80 [.ex (.float .f64 (fb n)), .p 0 0] [(0, .own [.int .i64 (m : Int)])] { val := .tup [.ex (.int .i64 (n : Int)), .ex (.bool true)], upd := [(0, .own [.int .i64 (m : Int)])], wks := [0] } := by
  have ct := trunc_ok (fb n) (nanN_fb n (by omega))
  rw [truncB_fb n (by omega)] at ct
  refine CallOK.from0 hmix Tryd.f80 1 fn80 (by kernel_rfl) (by kernel_rfl) (fun w ρ h1 h2 => ?_)
  have q0 := ge_fb n 0 (by omega) (by omega)
  rw [fb_lit0] at q0
  have q1 := le_fb n m (by omega) hn
  have q2 : (Ieee.Format.order (FloatKind.format FloatKind.f64) (fb n) (fb n) == some Ordering.eq) = true := by rw [eq_fb n n (by omega) (by omega)]; simp
  have q3 := getD_int n (by omega)
  have q4 := fok_int n (by omega)
  refine AG.rk 4 [0, 1] [0] 1 (todo' := [.code (sub (codeOf Tryd.f80) [1, 0, 0]), .code (sub (codeOf Tryd.f80) [1, 0, 1]), .code (sub (codeOf Tryd.f80) [1, 1])]) (st' := ⟨mkT 21 [(0, .ex (.float FloatKind.f64 (fb n))), (1, .p 0 0)], [(0, .own [Value.int .i64 (↑m : Int)])], 1⟩) (by kernel_rfl) (by kernel_rfl) ?_
  refine AG.gk [] [(1, { val := .ex (.bool true) }), (6, { val := .ex (.bool true) }), (11, { val := .ex (.float FloatKind.f64 (fb n)) }), (12, { val := .ex (.bool true) })] [0, 18] [0] 1 (st' := ⟨mkT 21 [(0, .ex (.float FloatKind.f64 (fb n))), (18, .ex (.bool true))], [(0, .own [Value.int .i64 (↑m : Int)])], 1⟩) (obs := [Ob.eq (.ex (.bool (Ieee.Format.order (FloatKind.format FloatKind.f64) (fb n) 0 == some Ordering.gt || Ieee.Format.order (FloatKind.format FloatKind.f64) (fb n) 0 == some Ordering.eq))) (.ex (.bool true)), Ob.eq (.ex (.bool (Ieee.Format.order (FloatKind.format FloatKind.f64) (fb n) (fb m) == some Ordering.lt || Ieee.Format.order (FloatKind.format FloatKind.f64) (fb n) (fb m) == some Ordering.eq))) (.ex (.bool true)), Ob.call (fun g => List.lookup g []) 81 [.ex (.float FloatKind.f64 (fb n))] [] { val := .ex (.float FloatKind.f64 (fb n)) }, Ob.eq (.ex (.bool (Ieee.Format.order (FloatKind.format FloatKind.f64) (fb n) (fb n) == some Ordering.eq))) (.ex (.bool true))]) (by kernel_rfl) (by kernel_rfl) ⟨(by simp only [Ob.holds, q0]), (by simp only [Ob.holds, q1]), ((ct ).gl), (by simp only [Ob.holds, q2]), trivial⟩ ?_
  refine AG.rk 2 [0] [0] 1 (todo' := [.code (sub (codeOf Tryd.f80) [1, 0, 1, 0, 0]), .code (sub (codeOf Tryd.f80) [1, 0, 1, 0, 1]), .code (sub (codeOf Tryd.f80) [1, 1])]) (st' := ⟨mkT 21 [(0, .ex (.float FloatKind.f64 (fb n)))], [(0, .own [Value.int .i64 (↑m : Int)])], 1⟩) (by kernel_rfl) (by kernel_rfl) ?_
  refine AG.gk [] [(1, { val := .ex (.int .i64 (↑n : Int)) })] [3, 4] [0] 1 (st' := ⟨mkT 21 [(3, .ex (.int .i64 (↑n : Int))), (4, .ex (.bool true))], [(0, .own [Value.int .i64 (↑m : Int)])], 1⟩) (obs := [Ob.eq (.ex (.int .i64 (Option.getD (floatToIntVal FloatKind.f64 (fb n) .i64) 0))) (.ex (.int .i64 (↑n : Int))), Ob.le 1 (fok (floatToIntVal FloatKind.f64 (fb n) .i64))]) (by kernel_rfl) (by kernel_rfl) ⟨(by simp only [Ob.holds, q3]), (by (simp only [Ob.holds]; omega)), trivial⟩ ?_
  refine AG.fin ([.ex (.int .i64 (↑n : Int)), .ex (.bool true)]) Go.Proofs.Tryd.f80 fn80 (.inr ⟨_, rfl⟩) (obs := []) (by kernel_rfl) trivial (by kernel_rfl) ⟨(by kernel_rfl), trivial⟩ (by kernel_rfl)
end Go.Proofs.YtdfbcdgneboilaaDoor.Ab
