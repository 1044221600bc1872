/- Own: the bytes of a cut, and layer 14's example (no statement is proved here). -/
import Derived.Test.YtdfbcdgneboilaaDoorF5
import Derived.Test.YtdfbcdgneboilaaDoorF4
import Derived.KernelRfl
namespace Go.Proofs.YtdfbcdgneboilaaDoor.Ab
open Go.Proofs
set_option linter.unusedSimpArgs false
set_option linter.unusedVariables false
set_option maxRecDepth 4000
theorem ofcells (bs : List Int) (a n : Nat) (h : a + n ≤ bs.length) : ovr (List.replicate ((n : Int)).toNat (Value.int .u8 0)) 0 (List.take (min (List.take (bs.length - a) (List.drop (0 + a * 1) (List.map (Value.int .u8) bs))).length n) (List.take (bs.length - a) (List.drop (0 + a * 1) (List.map (Value.int .u8) bs)))) = ar8 n fun j => bAt bs (((a + j : Nat) : Int)) := by
  have e1 : List.take (bs.length - a) (List.drop (0 + a * 1) (List.map (Value.int .u8) bs)) = List.drop a (List.map (Value.int .u8) bs) := by
    rw [Nat.zero_add, Nat.mul_one]; exact List.take_of_length_le (by simp)
  have e2 : (List.drop a (List.map (Value.int .u8) bs)).length = bs.length - a := by simp
  rw [e1, e2, show min (bs.length - a) n = n by omega, Int.toNat_natCast]
  have e3 : (List.take n (List.drop a (List.map (Value.int .u8) bs))).length = n := by simp; omega
  have e4 : ovr (List.replicate n (Value.int .u8 0)) 0 (List.take n (List.drop a (List.map (Value.int .u8) bs))) = List.take n (List.drop a (List.map (Value.int .u8) bs)) := by
    unfold ovr
    have e5 : List.drop n (List.replicate n (Value.int .u8 0)) = [] := List.drop_of_length_le (by simp)
    rw [e3, List.take_zero, List.nil_append, Nat.zero_add, e5, List.append_nil]
  rw [e4]
  refine eq_ar8 e3 fun i hi => ?_
  have hm := map_get bs ((a + i : Nat) : Int) (by omega) (by omega) .u8 undef
  rw [Int.toNat_natCast, List.getD_eq_getElem?_getD] at hm
  rw [List.getElem?_take, if_pos hi, List.getElem?_drop]
  rw [List.getElem?_eq_getElem (by simp; omega)] at hm ⊢
  simp only [Option.getD_some] at hm
  rw [hm]
theorem of_ok (bs : List Int) (hl : bs.length ≤ 70000) (a n : Nat) (h : a + n ≤ bs.length) : CallOK Tryd.prog (fun _ => none) 64 [.sv 0 0 bs.length, .ex (.complex .f64 (fb a) (fb n))] [(0, .view (bs.map (Value.int .u8)))] { val := .tup [.s 1 0 n n, .ex (.bool true)], upd := [(1, .own (ar8 n fun j => bAt bs (((a + j : Nat) : Int))))], nks := [1] } := by
  have ca := ascut_ok a n bs.length h (by omega)
  generalize fb a = x at *
  generalize fb n = y at *
  have hla : (ar8 n fun _ => (0 : Int)).length = n := length_ar8 _ _
  refine CallOK.from0 hmix Tryd.f64 1 fn64 (by kernel_rfl) (by kernel_rfl) (fun w ρ h1 h2 => ?_)
  refine AG.rk 3 [0, 1] [0] 1 (todo' := [.code (sub (codeOf Tryd.f64) [1, 0]), .code (sub (codeOf Tryd.f64) [1, 1])]) (st' := ⟨mkT 28 [(0, .sv 0 0 (List.length bs)), (1, .ex (.complex FloatKind.f64 x y))], [(0, .view (List.map (Value.int .u8) bs))], 1⟩) (by kernel_rfl) (by kernel_rfl) ?_
  refine AG.gk [] [(3, { val := .tup [.ex (.int .i64 (↑a : Int)), .ex (.int .i64 (↑n : Int)), .ex (.bool true)] })] [0, 6, 7, 8] [0] 1 (st' := ⟨mkT 28 [(0, .sv 0 0 (List.length bs)), (6, .ex (.int .i64 (↑a : Int))), (7, .ex (.int .i64 (↑n : Int))), (8, .ex (.bool true))], [(0, .view (List.map (Value.int .u8) bs))], 1⟩) (obs := [Ob.call (fun g => List.lookup g []) 73 [.ex (.complex FloatKind.f64 x y), .ex (.int .i64 (↑(List.length bs) : Int))] [] { val := .tup [.ex (.int .i64 (↑a : Int)), .ex (.int .i64 (↑n : Int)), .ex (.bool true)] }]) (by kernel_rfl) (by kernel_rfl) ⟨((ca ).gl), trivial⟩ ?_
  refine AG.rk 6 [0, 6, 7] [0] 1 (todo' := [.code (sub (codeOf Tryd.f64) [1, 1, 1, 0]), .code (sub (codeOf Tryd.f64) [1, 1, 1, 1])]) (st' := ⟨mkT 28 [(0, .sv 0 0 (List.length bs)), (6, .ex (.int .i64 (↑a : Int))), (7, .ex (.int .i64 (↑n : Int)))], [(0, .view (List.map (Value.int .u8) bs))], 1⟩) (by kernel_rfl) (by kernel_rfl) ?_
  refine AG.gk [] [(1, { val := .s 5 0 n n })] [0, 6, 9] [0, 5] 6 (st' := ⟨mkT 28 [(0, .sv 0 0 (List.length bs)), (6, .ex (.int .i64 (↑a : Int))), (9, .s 5 0 n n)], [(0, .view (List.map (Value.int .u8) bs)), (5, .own (List.replicate (Int.toNat (↑n : Int)) (Value.int .u8 0)))], 6⟩) (obs := [Ob.eq (.s 5 0 (Int.toNat (↑n : Int)) (Int.toNat (↑n : Int))) (.s 5 0 n n), Ob.ix (↑n : Int) (Int.toNat (↑n : Int) + 1), Ob.ix (↑n : Int) 9223372036854775808, Ob.le (1 * Int.toNat (↑n : Int)) 281474976710656]) (by kernel_rfl) (by kernel_rfl) ⟨(by simp only [Ob.holds, Int.toNat_natCast]), (by (simp only [Ob.holds]; omega)), (by (simp only [Ob.holds]; omega)), (by (simp only [Ob.holds]; omega)), trivial⟩ ?_
  refine AG.rk 1 [0, 6, 9] [0, 5] 6 (todo' := [.code (sub (codeOf Tryd.f64) [1, 1, 1, 1, 0]), .code (sub (codeOf Tryd.f64) [1, 1, 1, 1, 1])]) (st' := ⟨mkT 28 [(0, .sv 0 0 (List.length bs)), (6, .ex (.int .i64 (↑a : Int))), (9, .s 5 0 n n)], [(0, .view (List.map (Value.int .u8) bs)), (5, .own (List.replicate (Int.toNat (↑n : Int)) (Value.int .u8 0)))], 6⟩) (by kernel_rfl) (by kernel_rfl) ?_
  refine AG.gk [4] [(3, { val := .sv 0 (0 + a * 1) (List.length bs - a) })] [9] [0, 5] 6 (st' := ⟨mkT 28 [(9, .s 5 0 n n)], [(0, .view (List.map (Value.int .u8) bs)), (5, .own (ovr (List.replicate (Int.toNat (↑n : Int)) (Value.int .u8 0)) 0 (List.take (min (List.length (List.take (List.length bs - a) (List.drop (0 + a * 1) (List.map (Value.int .u8) bs)))) n) (List.take (List.length bs - a) (List.drop (0 + a * 1) (List.map (Value.int .u8) bs))))))], 6⟩) (obs := [Ob.eq (.sv 0 (0 + Int.toNat (↑a : Int) * 1) (List.length bs - Int.toNat (↑a : Int))) (.sv 0 (0 + a * 1) (List.length bs - a)), Ob.ix (↑(List.length bs) : Int) (List.length bs + 1), Ob.ix (↑a : Int) (List.length bs + 1), Ob.le (0 + n) (List.length (List.replicate (Int.toNat (↑n : Int)) (Value.int .u8 0))), Ob.one (List.take (List.length bs - a) (List.drop (0 + a * 1) (List.map (Value.int .u8) bs))), Ob.le (0 + a * 1 + (List.length bs - a)) (List.length (List.map (Value.int .u8) bs))]) (by kernel_rfl) (by kernel_rfl) ⟨(by simp only [Ob.holds, Int.toNat_natCast]), (by (simp only [Ob.holds]; omega)), (by (simp only [Ob.holds]; omega)), (by (simp [Ob.holds]; done)), (by exact one_take (one_drop (one_map _ _) _) _), (by (simp [Ob.holds]; omega)), trivial⟩ ?_
  refine AG.rk 2 [4, 5] [0, 5] 6 (todo' := [.code (sub (codeOf Tryd.f64) [1, 1, 0, 1, 0, 1])]) (st' := ⟨mkT 28 [(4, .s 5 0 n n), (5, .ex (.bool true))], [(0, .view (List.map (Value.int .u8) bs)), (5, .own (ovr (List.replicate (Int.toNat (↑n : Int)) (Value.int .u8 0)) 0 (List.take (min (List.length (List.take (List.length bs - a) (List.drop (0 + a * 1) (List.map (Value.int .u8) bs)))) n) (List.take (List.length bs - a) (List.drop (0 + a * 1) (List.map (Value.int .u8) bs))))))], 6⟩) (by kernel_rfl) (by kernel_rfl) ?_
  refine AG.ren 5 1 (st' := ⟨mkT 28 [(4, .s 1 0 n n), (5, .ex (.bool true))], [(0, .view (List.map (Value.int .u8) bs)), (1, .own (ovr (List.replicate (Int.toNat (↑n : Int)) (Value.int .u8 0)) 0 (List.take (min (List.length (List.take (List.length bs - a) (List.drop (0 + a * 1) (List.map (Value.int .u8) bs)))) n) (List.take (List.length bs - a) (List.drop (0 + a * 1) (List.map (Value.int .u8) bs))))))], 6⟩) (by kernel_rfl) (by kernel_rfl) ?_
  refine AG.fin ([.s 1 0 n n, .ex (.bool true)]) Go.Proofs.Tryd.f64 fn64 (.inr ⟨_, rfl⟩) (obs := []) (by kernel_rfl) trivial (by kernel_rfl) ⟨?_, trivial⟩ (by kernel_rfl)
  exact congrArg (fun z => some (Blk.own z)) (ofcells bs a n h)
theorem mapr8' (n : Nat) (f : Nat → Int) : ((List.range n).map f).map (Value.int .u8) = ar8 n f := by rw [List.map_map]; rfl
end Go.Proofs.YtdfbcdgneboilaaDoor.Ab
