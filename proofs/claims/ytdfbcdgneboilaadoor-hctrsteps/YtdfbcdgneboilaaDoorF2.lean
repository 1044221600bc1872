/- Own: cuts of layer 14, their bytes and half bytes (no statement is proved here). -/
import Derived.Test.YtdfbcdgneboilaaDoorF1
import Derived.KernelRfl
namespace Go.Proofs.YtdfbcdgneboilaaDoor.Ab
open Go.Proofs
set_option linter.unusedSimpArgs false
set_option linter.unusedVariables false
set_option maxRecDepth 4000
theorem fn73 : Tryd.prog.funcs[73]? = some Tryd.f73 := by kernel_rfl
theorem fn64 : Tryd.prog.funcs[64]? = some Tryd.f64 := by kernel_rfl
theorem ascut_ok (a n m : Nat) (h : a + n ≤ m) (hm : m < 2 ^ 40) : CallOK Tryd.prog (fun _ => none) 73 [.ex (.complex .f64 (fb a) (fb n)), .ex (.int .i64 (m : Int))] [] { val := .tup [.ex (.int .i64 (a : Int)), .ex (.int .i64 (n : Int)), .ex (.bool true)] } := by
  have c1 := num_ok a m (by omega) hm
  have c2 := num_ok n m (by omega) hm
  have e1 : IntKind.i64.wrap ((m : Int) - (a : Int)) = ((m - a : Nat) : Int) := by rw [wrap64_id _ (by omega) (by omega)]; omega
  have e2 : decide ((n : Int) > ((m - a : Nat) : Int)) = false := by simp; omega
  generalize fb a = x at *
  generalize fb n = y at *
  refine CallOK.from0 hmix Tryd.f73 0 fn73 (by kernel_rfl) (by kernel_rfl) (fun w ρ h1 h2 => ?_)
  refine AG.rk 5 [0, 3, 7] [0] 1 (todo' := [.code (sub (codeOf Tryd.f73) [1, 1, 0]), .code (sub (codeOf Tryd.f73) [1, 1, 1])]) (st' := ⟨mkT 40 [(0, .ex (.complex FloatKind.f64 x y)), (3, .p 0 0), (7, .f 80 [0])], [(0, .own [Value.int .i64 (↑m : Int)])], 1⟩) (by kernel_rfl) (by kernel_rfl) ?_
  refine AG.gk [] [(3, useR [(0, 0, 0)] 13 ({ val := .tup [.ex (.int .i64 (↑a : Int)), .ex (.bool true)], upd := [(0, .own [Value.int .i64 (↑m : Int)])], wks := [0] }))] [0, 3, 4, 7, 8] [0] 1 (st' := ⟨mkT 40 [(0, .ex (.complex FloatKind.f64 x y)), (3, .p 0 0), (4, .ex (.int .i64 (↑a : Int))), (7, .f 80 [0]), (8, .ex (.bool true))], [(0, .own [Value.int .i64 (↑m : Int)])], 1⟩) (obs := [Ob.call (fun g => List.lookup g []) 80 [.ex (.float FloatKind.f64 x), .p 0 0] [(0, .own [Value.int .i64 (↑m : Int)])] (useR [(0, 0, 0)] 13 { val := .tup [.ex (.int .i64 (↑a : Int)), .ex (.bool true)], upd := [(0, .own [Value.int .i64 (↑m : Int)])], wks := [0] })]) (by kernel_rfl) (by kernel_rfl) ⟨(CallOK.at0 [(0, 0, 0)] 13 (c1 ) (.cons (.ex _) (.cons (.p rfl) .nil)) (.cons rfl rfl ⟨rfl, rfl⟩ .nil) (by kernel_rfl)), trivial⟩ ?_
  refine AG.rk 1 [0, 3, 4, 7, 8] [0] 1 (todo' := [.code (sub (codeOf Tryd.f73) [1, 1, 1, 0]), .code (sub (codeOf Tryd.f73) [1, 1, 1, 1])]) (st' := ⟨mkT 40 [(0, .ex (.complex FloatKind.f64 x y)), (3, .p 0 0), (4, .ex (.int .i64 (↑a : Int))), (7, .f 80 [0]), (8, .ex (.bool true))], [(0, .own [Value.int .i64 (↑m : Int)])], 1⟩) (by kernel_rfl) (by kernel_rfl) ?_
  refine AG.gk [] [(3, useR [(0, 0, 0)] 13 ({ val := .tup [.ex (.int .i64 (↑n : Int)), .ex (.bool true)], upd := [(0, .own [Value.int .i64 (↑m : Int)])], wks := [0] }))] [3, 4, 5, 8, 9] [0] 1 (st' := ⟨mkT 40 [(3, .p 0 0), (4, .ex (.int .i64 (↑a : Int))), (5, .ex (.int .i64 (↑n : Int))), (8, .ex (.bool true)), (9, .ex (.bool true))], [(0, .own [Value.int .i64 (↑m : Int)])], 1⟩) (obs := [Ob.call (fun g => List.lookup g []) 80 [.ex (.float FloatKind.f64 y), .p 0 0] [(0, .own [Value.int .i64 (↑m : Int)])] (useR [(0, 0, 0)] 13 { val := .tup [.ex (.int .i64 (↑n : Int)), .ex (.bool true)], upd := [(0, .own [Value.int .i64 (↑m : Int)])], wks := [0] })]) (by kernel_rfl) (by kernel_rfl) ⟨(CallOK.at0 [(0, 0, 0)] 13 (c2 ) (.cons (.ex _) (.cons (.p rfl) .nil)) (.cons rfl rfl ⟨rfl, rfl⟩ .nil) (by kernel_rfl)), trivial⟩ ?_
  refine AG.rk 2 [3, 4, 5, 8, 9] [0] 1 (todo' := [.code (sub (codeOf Tryd.f73) [1, 1, 1, 1, 0, 0]), .code (sub (codeOf Tryd.f73) [1, 1, 1, 1, 0, 1]), .code (sub (codeOf Tryd.f73) [1, 1, 1, 1, 1])]) (st' := ⟨mkT 40 [(3, .p 0 0), (4, .ex (.int .i64 (↑a : Int))), (5, .ex (.int .i64 (↑n : Int))), (8, .ex (.bool true)), (9, .ex (.bool true))], [(0, .own [Value.int .i64 (↑m : Int)])], 1⟩) (by kernel_rfl) (by kernel_rfl) ?_
  refine AG.gk [] [(10, { val := .ex (.int .i64 (↑(m - a) : Int)) }), (11, { val := .ex (.bool false) })] [4, 5, 37] [] 0 (st' := ⟨mkT 40 [(4, .ex (.int .i64 (↑a : Int))), (5, .ex (.int .i64 (↑n : Int))), (37, .ex (.bool false))], [], 0⟩) (obs := [Ob.eq (.ex (.int .i64 (IntKind.wrap .i64 ((↑m : Int) - (↑a : Int))))) (.ex (.int .i64 (↑(m - a) : Int))), Ob.eq (.ex (.bool (decide ((↑n : Int) > (↑(m - a) : Int))))) (.ex (.bool false))]) (by kernel_rfl) (by kernel_rfl) ⟨(by simp only [Ob.holds, e1]), (by simp only [Ob.holds, e2]), trivial⟩ ?_
  refine AG.rk 4 [4, 5, 6] [] 0 (todo' := [.code (sub (codeOf Tryd.f73) [1, 1, 1, 1, 0, 1, 0, 1])]) (st' := ⟨mkT 40 [(4, .ex (.int .i64 (↑a : Int))), (5, .ex (.int .i64 (↑n : Int))), (6, .ex (.bool true))], [], 0⟩) (by kernel_rfl) (by kernel_rfl) ?_
  refine AG.fin ([.ex (.int .i64 (↑a : Int)), .ex (.int .i64 (↑n : Int)), .ex (.bool true)]) Go.Proofs.Tryd.f73 fn73 (.inr ⟨_, rfl⟩) (obs := []) (by kernel_rfl) trivial (by kernel_rfl) trivial (by kernel_rfl)
theorem rep_ar8F (n : Nat) : List.replicate n (Value.int .u8 0) = ar8 n (fun _ => 0) := by
  apply List.ext_getElem
  · simp [ar8]
  · intro i h1 h2; simp [ar8]
/-- A half byte. -/
def hvb (bs : List Int) (j : Nat) : Int := if j % 2 = 0 then bAt bs ((j / 2 : Nat) : Int) / 16 else bAt bs ((j / 2 : Nat) : Int) % 16
theorem hv_all : ∀ m : Nat, m < 256 → IntKind.u8.wrap (BitVec.ofInt 8 (((m : Nat) : Int).fdiv (2 ^ min (((4 - 0 * 4 : Nat) : Int)).toNat 8)) &&& BitVec.ofInt 8 15).toNat = ((m : Nat) : Int) / 16 ∧ IntKind.u8.wrap (BitVec.ofInt 8 (((m : Nat) : Int).fdiv (2 ^ min (((4 - 1 * 4 : Nat) : Int)).toNat 8)) &&& BitVec.ofInt 8 15).toNat = ((m : Nat) : Int) % 16 := by decide +kernel
theorem hv_eq (bs : List Int) (h8 : All8 bs) (j : Nat) : IntKind.u8.wrap (BitVec.ofInt 8 ((bAt bs ((j / 2 : Nat) : Int)).fdiv (2 ^ min (((4 - j % 2 * 4 : Nat) : Int)).toNat 8)) &&& BitVec.ofInt 8 15).toNat = hvb bs j := by
  have h := h8.at ((j / 2 : Nat) : Int)
  unfold hvb
  obtain ⟨m, hm⟩ := Int.eq_ofNat_of_zero_le h.1
  rw [hm] at h ⊢
  have h256 : m < 256 := by have := h.2; omega
  have hp : j % 2 = 0 ∨ j % 2 = 1 := by omega
  rcases hp with hp | hp
  · rw [hp, if_pos rfl]; exact (hv_all m h256).1
  · rw [hp, if_neg (by decide)]; exact (hv_all m h256).2
theorem r8_hvb (bs : List Int) (h8 : All8 bs) (j : Nat) : 0 ≤ hvb bs j ∧ hvb bs j ≤ 15 := by
  have h := h8.at ((j / 2 : Nat) : Int)
  have h1 := h.1
  have h2 := h.2
  unfold hvb
  split <;> omega
end Go.Proofs.YtdfbcdgneboilaaDoor.Ab
