/- Own: rows padded and marked (no statement is proved here). -/
import Derived.Test.YtddnfcgbfpbagaaO2
import Derived.KernelRfl
namespace Go.Proofs.Ytddnfcgbfpbagaa.Ab
open Go.Proofs
set_option linter.unusedSimpArgs false
set_option linter.unusedVariables false
theorem fn52 : Try.prog.funcs[52]? = some Try.f52 := by kernel_rfl
theorem fn29 : Try.prog.funcs[29]? = some Try.f29 := by kernel_rfl
/-- The least multiple of 16 from n on. -/
def up16 (n : Nat) : Nat := (n + 15) / 16 * 16
theorem rounded_ok (n : Nat) (hn : n ≤ 2000000) : CallOK Try.prog (fun _ => none) 52 [.ex (.int .i64 (n : Int)), .ex (.int .i64 16)] [] { val := .ex (.int .i64 ((up16 n : Nat) : Int)) } := by
  have e1 : (n : Int).tmod 16 = ((n % 16 : Nat) : Int) := by rw [Int.tmod_eq_emod_of_nonneg (by omega)]; omega
  have e2 : IntKind.i64.wrap (16 - ((n % 16 : Nat) : Int)) = ((16 - n % 16 : Nat) : Int) := by rw [wrap64_id _ (by omega) (by omega)]; omega
  have e3 : ((16 - n % 16 : Nat) : Int).tmod 16 = (((16 - n % 16) % 16 : Nat) : Int) := by rw [Int.tmod_eq_emod_of_nonneg (by omega)]; omega
  have e4 : IntKind.i64.wrap ((n : Int) + (((16 - n % 16) % 16 : Nat) : Int)) = ((up16 n : Nat) : Int) := by rw [wrap64_id _ (by omega) (by omega)]; unfold up16; omega
  refine CallOK.from0 hmix Try.f52 0 fn52 (by kernel_rfl) (by kernel_rfl) (fun w ρ h1 h2 => ?_)
  refine AG.rk 8 [0, 1] [] 0 (todo' := [.code (sub (codeOf Try.f52) [1, 1, 0]), .code (sub (codeOf Try.f52) [1, 0, 1, 0, 1])]) (st' := ⟨mkT 17 [(0, .ex (.int .i64 (↑n : Int))), (1, .ex (.int .i64 16))], [], 0⟩) (by kernel_rfl) (by kernel_rfl) ?_
  refine AG.gk [] [(4, { val := .ex (.int .i64 (↑(n % 16) : Int)) }), (5, { val := .ex (.int .i64 (↑(16 - n % 16) : Int)) }), (7, { val := .ex (.int .i64 (↑((16 - n % 16) % 16) : Int)) }), (8, { val := .ex (.int .i64 (↑(up16 n) : Int)) })] [4] [] 0 (st' := ⟨mkT 17 [(4, .ex (.int .i64 (↑(up16 n) : Int)))], [], 0⟩) (obs := [Ob.eq (.ex (.int .i64 (Int.tmod (↑n : Int) 16))) (.ex (.int .i64 (↑(n % 16) : Int))), Ob.le 1 16, Ob.eq (.ex (.int .i64 (IntKind.wrap .i64 (16 - (↑(n % 16) : Int))))) (.ex (.int .i64 (↑(16 - n % 16) : Int))), Ob.eq (.ex (.int .i64 (Int.tmod (↑(16 - n % 16) : Int) 16))) (.ex (.int .i64 (↑((16 - n % 16) % 16) : Int))), Ob.le 1 16, Ob.eq (.ex (.int .i64 (IntKind.wrap .i64 ((↑n : Int) + (↑((16 - n % 16) % 16) : Int))))) (.ex (.int .i64 (↑(up16 n) : Int)))]) (by kernel_rfl) (by kernel_rfl) ⟨(by simp only [Ob.holds, e1, e2, e3, e4]), (Ob.holds_of_dec (by kernel_rfl)), (by simp only [Ob.holds, e1, e2, e3, e4]), (by simp only [Ob.holds, e1, e2, e3, e4]), (Ob.holds_of_dec (by kernel_rfl)), (by simp only [Ob.holds, e1, e2, e3, e4]), trivial⟩ ?_
  refine AG.fin ([.ex (.int .i64 (↑(up16 n) : Int))]) Go.Proofs.Try.f52 fn52 (.inr ⟨_, rfl⟩) (obs := []) (by kernel_rfl) trivial (by kernel_rfl) trivial (by kernel_rfl)
theorem bAt_app' (l m : List Int) (j : Nat) : bAt (l ++ m) (j : Int) = if j < l.length then bAt l (j : Int) else bAt m ((j - l.length : Nat) : Int) := by
  unfold bAt
  simp only [List.length_append, Int.toNat_natCast]
  by_cases h : j < l.length
  · rw [if_pos h, if_pos ⟨by omega, by omega⟩, if_pos ⟨by omega, by omega⟩, List.getD_eq_getElem?_getD, List.getD_eq_getElem?_getD, List.getElem?_append_left h]
  · rw [if_neg h]
    by_cases h2 : j < l.length + m.length
    · rw [if_pos ⟨by omega, by omega⟩, if_pos ⟨by omega, by omega⟩, List.getD_eq_getElem?_getD, List.getD_eq_getElem?_getD, List.getElem?_append_right (by omega)]
    · rw [if_neg (by omega), if_neg (by omega)]
theorem rep_row (n : Nat) : List.replicate n (Value.int .u8 0) = ar8 n (fun _ => 0) := by
  unfold ar8
  rw [List.map_const', List.length_range]
theorem ovr_pad (L : Nat) (bs : List Int) (h : bs.length ≤ L) : ovr (List.replicate L (Value.int .u8 0)) 0 (bs.map (Value.int .u8)) = ar8 L (fun j => bAt bs (j : Int)) := by
  refine eq_ar8 (by unfold ovr; simp; omega) fun j hj => ?_
  unfold ovr
  rw [List.take_zero, List.nil_append, List.length_map, Nat.zero_add]
  by_cases h1 : j < bs.length
  · rw [List.getElem?_append_left (by simpa using h1), List.getElem?_map, List.getElem?_eq_getElem h1, bAt_in bs _ (by omega) (by omega)]
    simp [List.getElem?_eq_getElem h1]
  · rw [List.getElem?_append_right (by simp; omega), List.getElem?_drop, List.getElem?_replicate, if_pos (by simp; omega), bAt_out _ _ (by omega)]
theorem all_of (bs : List Int) (L : Nat) (h : bs.length ≤ L) : List.take (min (List.take bs.length (List.drop 0 (List.map (Value.int IntKind.u8) bs))).length L) (List.take bs.length (List.drop 0 (List.map (Value.int IntKind.u8) bs))) = List.map (Value.int IntKind.u8) bs := by
  have e : List.take bs.length (List.drop 0 (List.map (Value.int IntKind.u8) bs)) = List.map (Value.int IntKind.u8) bs := by
    rw [List.drop_zero, List.take_of_length_le (by simp)]
  rw [e, List.take_of_length_le (by simp; omega)]
theorem padded_ok (bs : List Int) (hl : bs.length ≤ 1000000) : CallOK Try.prog (fun _ => none) 29 [.sv 0 0 bs.length, .ex (.int .i64 16)] [(0, .view (bs.map (Value.int .u8)))] { val := .s 1 0 (up16 bs.length) (up16 bs.length), upd := [(1, .own (ar8 (up16 bs.length) (fun j => bAt bs (j : Int))))], nks := [1] } := by
  have c1 := rounded_ok bs.length (by omega)
  have hu : bs.length ≤ up16 bs.length := by unfold up16; omega
  have hu2 : up16 bs.length ≤ 2000000 := by unfold up16; omega
  have eO := ovr_pad (up16 bs.length) bs hu
  generalize up16 bs.length = L at *
  refine CallOK.from0 hmix Try.f29 1 fn29 (by kernel_rfl) (by kernel_rfl) (fun w ρ h1 h2 => ?_)
  refine AG.rk 3 [0, 1] [0] 1 (todo' := [.code (sub (codeOf Try.f29) [1, 0]), .code (sub (codeOf Try.f29) [1, 1])]) (st' := ⟨mkT 15 [(0, .sv 0 0 (List.length bs)), (1, .ex (.int .i64 16))], [(0, .view (List.map (Value.int .u8) bs))], 1⟩) (by kernel_rfl) (by kernel_rfl) ?_
  refine AG.gk [4] [(3, { val := .ex (.int .i64 (↑L : Int)) })] [0, 5] [0, 17] 18 (st' := ⟨mkT 15 [(0, .sv 0 0 (List.length bs)), (5, .s 17 0 (Int.toNat (↑L : Int)) (Int.toNat (↑L : Int)))], [(0, .view (List.map (Value.int .u8) bs)), (17, .own (List.replicate (Int.toNat (↑L : Int)) (Value.int .u8 0)))], 18⟩) (obs := [Ob.call (fun g => List.lookup g []) 52 [.ex (.int .i64 (↑(List.length bs) : Int)), .ex (.int .i64 16)] [] { val := .ex (.int .i64 (↑L : Int)) }, Ob.ix (↑L : Int) (Int.toNat (↑L : Int) + 1), Ob.ix (↑L : Int) 9223372036854775808, Ob.le (1 * Int.toNat (↑L : Int)) 281474976710656]) (by kernel_rfl) (by kernel_rfl) ⟨((c1 ).gl), (by (simp only [Ob.holds]; omega)), (by (simp only [Ob.holds]; omega)), (by (simp only [Ob.holds]; omega)), trivial⟩ ?_
  refine AG.rk 1 [0, 5] [0, 17] 18 (todo' := [.code (sub (codeOf Try.f29) [1, 1, 0]), .code (sub (codeOf Try.f29) [1, 1, 1])]) (st' := ⟨mkT 15 [(0, .sv 0 0 (List.length bs)), (5, .s 17 0 (Int.toNat (↑L : Int)) (Int.toNat (↑L : Int)))], [(0, .view (List.map (Value.int .u8) bs)), (17, .own (List.replicate (Int.toNat (↑L : Int)) (Value.int .u8 0)))], 18⟩) (by kernel_rfl) (by kernel_rfl) ?_
  refine AG.gk [2] [] [5] [0, 17] 18 (st' := ⟨mkT 15 [(5, .s 17 0 (Int.toNat (↑L : Int)) (Int.toNat (↑L : Int)))], [(0, .view (List.map (Value.int .u8) bs)), (17, .own (ovr (List.replicate (Int.toNat (↑L : Int)) (Value.int .u8 0)) 0 (List.take (min (List.length (List.take (List.length bs) (List.drop 0 (List.map (Value.int .u8) bs)))) (Int.toNat (↑L : Int))) (List.take (List.length bs) (List.drop 0 (List.map (Value.int .u8) bs))))))], 18⟩) (obs := [Ob.le (0 + Int.toNat (↑L : Int)) (List.length (List.replicate (Int.toNat (↑L : Int)) (Value.int .u8 0))), Ob.one (List.take (List.length bs) (List.drop 0 (List.map (Value.int .u8) bs))), Ob.le (0 + List.length bs) (List.length (List.map (Value.int .u8) bs))]) (by kernel_rfl) (by kernel_rfl) ⟨(by (simp [Ob.holds]; done)), (by exact one_take (one_map _ _) _), (by (simp [Ob.holds]; done)), trivial⟩ ?_
  refine AG.rk 2 [4] [0, 17] 18 (todo' := [.code (sub (codeOf Try.f29) [1, 1, 1, 1])]) (st' := ⟨mkT 15 [(4, .s 17 0 (Int.toNat (↑L : Int)) (Int.toNat (↑L : Int)))], [(0, .view (List.map (Value.int .u8) bs)), (17, .own (ovr (List.replicate (Int.toNat (↑L : Int)) (Value.int .u8 0)) 0 (List.take (min (List.length (List.take (List.length bs) (List.drop 0 (List.map (Value.int .u8) bs)))) (Int.toNat (↑L : Int))) (List.take (List.length bs) (List.drop 0 (List.map (Value.int .u8) bs))))))], 18⟩) (by kernel_rfl) (by kernel_rfl) ?_
  refine AG.ren 17 1 (st' := ⟨mkT 15 [(4, .s 1 0 (Int.toNat (↑L : Int)) (Int.toNat (↑L : Int)))], [(0, .view (List.map (Value.int .u8) bs)), (1, .own (ovr (List.replicate (Int.toNat (↑L : Int)) (Value.int .u8 0)) 0 (List.take (min (List.length (List.take (List.length bs) (List.drop 0 (List.map (Value.int .u8) bs)))) (Int.toNat (↑L : Int))) (List.take (List.length bs) (List.drop 0 (List.map (Value.int .u8) bs))))))], 18⟩) (by kernel_rfl) (by kernel_rfl) ?_
  refine AG.fin ([.s 1 0 (Int.toNat (↑L : Int)) (Int.toNat (↑L : Int))]) Go.Proofs.Try.f29 fn29 (.inr ⟨_, rfl⟩) (obs := []) (by kernel_rfl) trivial (by kernel_rfl) ⟨?_, trivial⟩ (by kernel_rfl)
  show some (Blk.own (ovr (List.replicate ((L : Nat) : Int).toNat (Value.int IntKind.u8 0)) 0 (List.take (min (List.take bs.length (List.drop 0 (List.map (Value.int IntKind.u8) bs))).length ((L : Nat) : Int).toNat) (List.take bs.length (List.drop 0 (List.map (Value.int IntKind.u8) bs)))))) = _
  rw [Int.toNat_natCast, all_of bs L hu, eO]
end Go.Proofs.Ytddnfcgbfpbagaa.Ab
