/- Own: the reference of layer 1: bytes at places, numbers, numbers' bytes (no statement is proved here). -/
import Derived.Test.YtlkihbmkekadeaaDoorN0
import Derived.KernelRfl
namespace Go.Proofs.YtlkihbmkekadeaaDoor.Ab
open Go.Proofs
set_option linter.unusedSimpArgs false
set_option linter.unusedVariables false
theorem fn65 : Tryd.prog.funcs[65]? = some Tryd.f65 := by kernel_rfl
/-- The byte at a place, by the reference. -/
theorem rat_ok (bs : List Int) (at' k : Int) (hk : 0 ≤ k) (hk' : k ≤ 100) (ha : -9223372036854775808 ≤ at') (hl : bs.length ≤ 9223372036854775000) (ha' : at' ≤ 9223372036854775807) :
    CallOK Tryd.prog (fun _ => none) 65 [.sv 0 0 bs.length, .ex (.int .i64 at'), .ex (.int .i64 k)] [(0, .view (bs.map (Value.int .u8)))] { val := .ex (.int .u8 (bAt bs (at' + k))) } := by
  have w0 : IntKind.i64.wrap (0 - k) = -k := by rw [wrap64_id _ (by omega) (by omega)]; omega
  by_cases h1 : at' < -k
  · have e1 : decide (at' < -k) = true := by simpa using h1
    rw [bAt_out bs _ (by omega)]
    refine CallOK.from0 hmix Tryd.f65 1 fn65 (by kernel_rfl) (by kernel_rfl) (fun w ρ h1 h2 => ?_)
    refine AG.rk 4 [0, 1, 2] [0] 1 (todo' := [.code (sub (codeOf Tryd.f65) [1, 0, 0]), .code (sub (codeOf Tryd.f65) [1, 0, 1]), .code (sub (codeOf Tryd.f65) [1, 1])]) (st' := ⟨mkT 29 [(0, .sv 0 0 (List.length bs)), (1, .ex (.int .i64 at')), (2, .ex (.int .i64 k))], [(0, .view (List.map (Value.int .u8) bs))], 1⟩) (by kernel_rfl) (by kernel_rfl) ?_
    refine AG.gk [] [(2, { val := .ex (.int .i64 (-k)) }), (3, { val := .ex (.bool true) })] [0, 1, 2, 16] [0] 1 (st' := ⟨mkT 29 [(0, .sv 0 0 (List.length bs)), (1, .ex (.int .i64 at')), (2, .ex (.int .i64 k)), (16, .ex (.bool true))], [(0, .view (List.map (Value.int .u8) bs))], 1⟩) (obs := [Ob.eq (.ex (.int .i64 (IntKind.wrap .i64 (0 - k)))) (.ex (.int .i64 (-k))), Ob.eq (.ex (.bool (decide (at' < -k)))) (.ex (.bool true))]) (by kernel_rfl) (by kernel_rfl) ⟨(by simp only [Ob.holds, w0]), (by simp only [Ob.holds, e1]), trivial⟩ ?_
    refine AG.rk 3 [6] [0] 1 (todo' := [.code (sub (codeOf Tryd.f65) [1, 0, 1, 0, 1]), .code (sub (codeOf Tryd.f65) [1, 1])]) (st' := ⟨mkT 29 [(6, .ex (.int .u8 0))], [(0, .view (List.map (Value.int .u8) bs))], 1⟩) (by kernel_rfl) (by kernel_rfl) ?_
    refine AG.fin ([.ex (.int .u8 0)]) Go.Proofs.Tryd.f65 fn65 (.inr ⟨_, rfl⟩) (obs := []) (by kernel_rfl) trivial (by kernel_rfl) trivial (by kernel_rfl)
  have e1 : decide (at' < -k) = false := by simpa using h1
  by_cases h2 : (bs.length : Int) ≤ at'
  · have e2 : decide (at' ≥ (bs.length : Int)) = true := by simpa using h2
    rw [bAt_out bs _ (by omega)]
    refine CallOK.from0 hmix Tryd.f65 1 fn65 (by kernel_rfl) (by kernel_rfl) (fun w ρ h1 h2 => ?_)
    refine AG.rk 4 [0, 1, 2] [0] 1 (todo' := [.code (sub (codeOf Tryd.f65) [1, 0, 0]), .code (sub (codeOf Tryd.f65) [1, 0, 1]), .code (sub (codeOf Tryd.f65) [1, 1])]) (st' := ⟨mkT 29 [(0, .sv 0 0 (List.length bs)), (1, .ex (.int .i64 at')), (2, .ex (.int .i64 k))], [(0, .view (List.map (Value.int .u8) bs))], 1⟩) (by kernel_rfl) (by kernel_rfl) ?_
    refine AG.gk [] [(2, { val := .ex (.int .i64 (-k)) }), (3, { val := .ex (.bool false) }), (8, { val := .ex (.bool true) })] [0, 1, 2, 16] [0] 1 (st' := ⟨mkT 29 [(0, .sv 0 0 (List.length bs)), (1, .ex (.int .i64 at')), (2, .ex (.int .i64 k)), (16, .ex (.bool true))], [(0, .view (List.map (Value.int .u8) bs))], 1⟩) (obs := [Ob.eq (.ex (.int .i64 (IntKind.wrap .i64 (0 - k)))) (.ex (.int .i64 (-k))), Ob.eq (.ex (.bool (decide (at' < -k)))) (.ex (.bool false)), Ob.eq (.ex (.bool (decide (at' ≥ (↑(List.length bs) : Int))))) (.ex (.bool true))]) (by kernel_rfl) (by kernel_rfl) ⟨(by simp only [Ob.holds, w0]), (by simp only [Ob.holds, e1]), (by simp only [Ob.holds, e2]), trivial⟩ ?_
    refine AG.rk 3 [6] [0] 1 (todo' := [.code (sub (codeOf Tryd.f65) [1, 0, 1, 0, 1]), .code (sub (codeOf Tryd.f65) [1, 1])]) (st' := ⟨mkT 29 [(6, .ex (.int .u8 0))], [(0, .view (List.map (Value.int .u8) bs))], 1⟩) (by kernel_rfl) (by kernel_rfl) ?_
    refine AG.fin ([.ex (.int .u8 0)]) Go.Proofs.Tryd.f65 fn65 (.inr ⟨_, rfl⟩) (obs := []) (by kernel_rfl) trivial (by kernel_rfl) trivial (by kernel_rfl)
  have e2 : decide (at' ≥ (bs.length : Int)) = false := by simp; omega
  have w1 : IntKind.i64.wrap (at' + k) = at' + k := wrap64_id _ (by omega) (by omega)
  by_cases h3 : (bs.length : Int) ≤ at' + k
  · have e3 : decide (at' + k ≥ (bs.length : Int)) = true := by simpa using h3
    rw [bAt_out bs _ (by omega)]
    refine CallOK.from0 hmix Tryd.f65 1 fn65 (by kernel_rfl) (by kernel_rfl) (fun w ρ h1 h2 => ?_)
    refine AG.rk 4 [0, 1, 2] [0] 1 (todo' := [.code (sub (codeOf Tryd.f65) [1, 0, 0]), .code (sub (codeOf Tryd.f65) [1, 0, 1]), .code (sub (codeOf Tryd.f65) [1, 1])]) (st' := ⟨mkT 29 [(0, .sv 0 0 (List.length bs)), (1, .ex (.int .i64 at')), (2, .ex (.int .i64 k))], [(0, .view (List.map (Value.int .u8) bs))], 1⟩) (by kernel_rfl) (by kernel_rfl) ?_
    refine AG.gk [] [(2, { val := .ex (.int .i64 (-k)) }), (3, { val := .ex (.bool false) }), (8, { val := .ex (.bool false) })] [0, 1, 2, 16] [0] 1 (st' := ⟨mkT 29 [(0, .sv 0 0 (List.length bs)), (1, .ex (.int .i64 at')), (2, .ex (.int .i64 k)), (16, .ex (.bool false))], [(0, .view (List.map (Value.int .u8) bs))], 1⟩) (obs := [Ob.eq (.ex (.int .i64 (IntKind.wrap .i64 (0 - k)))) (.ex (.int .i64 (-k))), Ob.eq (.ex (.bool (decide (at' < -k)))) (.ex (.bool false)), Ob.eq (.ex (.bool (decide (at' ≥ (↑(List.length bs) : Int))))) (.ex (.bool false))]) (by kernel_rfl) (by kernel_rfl) ⟨(by simp only [Ob.holds, w0]), (by simp only [Ob.holds, e1]), (by simp only [Ob.holds, e2]), trivial⟩ ?_
    refine AG.rk 4 [0, 1, 2] [0] 1 (todo' := [.code (sub (codeOf Tryd.f65) [1, 1, 0, 0]), .code (sub (codeOf Tryd.f65) [1, 1, 0, 1]), .code (sub (codeOf Tryd.f65) [1, 1, 1])]) (st' := ⟨mkT 29 [(0, .sv 0 0 (List.length bs)), (1, .ex (.int .i64 at')), (2, .ex (.int .i64 k))], [(0, .view (List.map (Value.int .u8) bs))], 1⟩) (by kernel_rfl) (by kernel_rfl) ?_
    refine AG.gk [] [(2, { val := .ex (.int .i64 (at' + k)) }), (5, { val := .ex (.bool true) })] [0, 1, 2, 22] [0] 1 (st' := ⟨mkT 29 [(0, .sv 0 0 (List.length bs)), (1, .ex (.int .i64 at')), (2, .ex (.int .i64 k)), (22, .ex (.bool true))], [(0, .view (List.map (Value.int .u8) bs))], 1⟩) (obs := [Ob.eq (.ex (.int .i64 (IntKind.wrap .i64 (at' + k)))) (.ex (.int .i64 (at' + k))), Ob.eq (.ex (.bool (decide (at' + k ≥ (↑(List.length bs) : Int))))) (.ex (.bool true))]) (by kernel_rfl) (by kernel_rfl) ⟨(by simp only [Ob.holds, w1]), (by simp only [Ob.holds, e3]), trivial⟩ ?_
    refine AG.rk 3 [6] [0] 1 (todo' := [.code (sub (codeOf Tryd.f65) [1, 0, 1, 0, 1]), .code (sub (codeOf Tryd.f65) [1, 1, 1])]) (st' := ⟨mkT 29 [(6, .ex (.int .u8 0))], [(0, .view (List.map (Value.int .u8) bs))], 1⟩) (by kernel_rfl) (by kernel_rfl) ?_
    refine AG.fin ([.ex (.int .u8 0)]) Go.Proofs.Tryd.f65 fn65 (.inr ⟨_, rfl⟩) (obs := []) (by kernel_rfl) trivial (by kernel_rfl) trivial (by kernel_rfl)
  have e3 : decide (at' + k ≥ (bs.length : Int)) = false := by simp; omega
  have e4 : (List.map (Value.int .u8) bs).getD (0 + (at' + k).toNat * 1) undef = .int .u8 (bAt bs (at' + k)) := by
    rw [Nat.zero_add, Nat.mul_one]; exact map_get bs _ (by omega) (by omega) _ _
  refine CallOK.from0 hmix Tryd.f65 1 fn65 (by kernel_rfl) (by kernel_rfl) (fun w ρ h1 h2 => ?_)
  refine AG.rk 4 [0, 1, 2] [0] 1 (todo' := [.code (sub (codeOf Tryd.f65) [1, 0, 0]), .code (sub (codeOf Tryd.f65) [1, 0, 1]), .code (sub (codeOf Tryd.f65) [1, 1])]) (st' := ⟨mkT 29 [(0, .sv 0 0 (List.length bs)), (1, .ex (.int .i64 at')), (2, .ex (.int .i64 k))], [(0, .view (List.map (Value.int .u8) bs))], 1⟩) (by kernel_rfl) (by kernel_rfl) ?_
  refine AG.gk [] [(2, { val := .ex (.int .i64 (-k)) }), (3, { val := .ex (.bool false) }), (8, { val := .ex (.bool false) })] [0, 1, 2, 16] [0] 1 (st' := ⟨mkT 29 [(0, .sv 0 0 (List.length bs)), (1, .ex (.int .i64 at')), (2, .ex (.int .i64 k)), (16, .ex (.bool false))], [(0, .view (List.map (Value.int .u8) bs))], 1⟩) (obs := [Ob.eq (.ex (.int .i64 (IntKind.wrap .i64 (0 - k)))) (.ex (.int .i64 (-k))), Ob.eq (.ex (.bool (decide (at' < -k)))) (.ex (.bool false)), Ob.eq (.ex (.bool (decide (at' ≥ (↑(List.length bs) : Int))))) (.ex (.bool false))]) (by kernel_rfl) (by kernel_rfl) ⟨(by simp only [Ob.holds, w0]), (by simp only [Ob.holds, e1]), (by simp only [Ob.holds, e2]), trivial⟩ ?_
  refine AG.rk 4 [0, 1, 2] [0] 1 (todo' := [.code (sub (codeOf Tryd.f65) [1, 1, 0, 0]), .code (sub (codeOf Tryd.f65) [1, 1, 0, 1]), .code (sub (codeOf Tryd.f65) [1, 1, 1])]) (st' := ⟨mkT 29 [(0, .sv 0 0 (List.length bs)), (1, .ex (.int .i64 at')), (2, .ex (.int .i64 k))], [(0, .view (List.map (Value.int .u8) bs))], 1⟩) (by kernel_rfl) (by kernel_rfl) ?_
  refine AG.gk [] [(2, { val := .ex (.int .i64 (at' + k)) }), (5, { val := .ex (.bool false) })] [0, 1, 2, 22] [0] 1 (st' := ⟨mkT 29 [(0, .sv 0 0 (List.length bs)), (1, .ex (.int .i64 at')), (2, .ex (.int .i64 k)), (22, .ex (.bool false))], [(0, .view (List.map (Value.int .u8) bs))], 1⟩) (obs := [Ob.eq (.ex (.int .i64 (IntKind.wrap .i64 (at' + k)))) (.ex (.int .i64 (at' + k))), Ob.eq (.ex (.bool (decide (at' + k ≥ (↑(List.length bs) : Int))))) (.ex (.bool false))]) (by kernel_rfl) (by kernel_rfl) ⟨(by simp only [Ob.holds, w1]), (by simp only [Ob.holds, e3]), trivial⟩ ?_
  refine AG.rk 3 [0, 1, 2] [0] 1 (todo' := [.code (sub (codeOf Tryd.f65) [1, 1, 1, 0]), .code (sub (codeOf Tryd.f65) [1, 0, 1, 0, 1])]) (st' := ⟨mkT 29 [(0, .sv 0 0 (List.length bs)), (1, .ex (.int .i64 at')), (2, .ex (.int .i64 k))], [(0, .view (List.map (Value.int .u8) bs))], 1⟩) (by kernel_rfl) (by kernel_rfl) ?_
  refine AG.gk [4] [(3, { val := .ex (.int .i64 (at' + k)) }), (5, { val := .ex (.int .u8 (bAt bs (at' + k))) })] [6] [0] 1 (st' := ⟨mkT 29 [(6, .ex (.int .u8 (bAt bs (at' + k))))], [(0, .view (List.map (Value.int .u8) bs))], 1⟩) (obs := [Ob.eq (.ex (.int .i64 (IntKind.wrap .i64 (at' + k)))) (.ex (.int .i64 (at' + k))), Ob.ix (at' + k) (List.length bs), Ob.eq (.ex (List.getD (List.map (Value.int .u8) bs) (0 + Int.toNat (at' + k) * 1) undef)) (.ex (.int .u8 (bAt bs (at' + k)))), Ob.le (0 + Int.toNat (at' + k) * 1 + 1) (List.length (List.map (Value.int .u8) bs))]) (by kernel_rfl) (by kernel_rfl) ⟨(by simp only [Ob.holds, w1]), (by (simp only [Ob.holds]; omega)), (by simp only [Ob.holds, e4]), (by (simp [Ob.holds]; omega)), trivial⟩ ?_
  refine AG.fin ([.ex (.int .u8 (bAt bs (at' + k)))]) Go.Proofs.Tryd.f65 fn65 (.inr ⟨_, rfl⟩) (obs := []) (by kernel_rfl) trivial (by kernel_rfl) trivial (by kernel_rfl)
theorem fn54 : Tryd.prog.funcs[54]? = some Tryd.f54 := by kernel_rfl
def pdiv : Int → Nat → Int
  | n, 0 => n
  | n, k + 1 => IntKind.u64.wrap ((pdiv n k).tdiv 256)
def rput (n : Int) (k : Nat) : Int := IntKind.u8.wrap ((pdiv n k).tmod 256)
theorem rput_eq (n : Int) (hn : R64 n) (k : Nat) : rput n k = putw n k := by
  have h : ∀ k, pdiv n k = n / 2 ^ (8 * k) ∧ 0 ≤ pdiv n k ∧ pdiv n k < 18446744073709551616 := fun k => by
    induction k with
    | zero => exact ⟨by simp [pdiv], hn.1, hn.2⟩
    | succ k ih =>
      have e : pdiv n (k + 1) = IntKind.u64.wrap ((pdiv n k).tdiv 256) := rfl
      have e2 : pdiv n (k + 1) = pdiv n k / 256 := by rw [e, Int.tdiv_eq_ediv_of_nonneg ih.2.1, wrap_u64]; omega
      refine ⟨?_, by omega, by omega⟩
      rw [e2, ih.1, show 8 * (k + 1) = 8 * k + 8 by omega, Int.pow_add, Int.ediv_ediv_of_nonneg (Int.le_of_lt (Int.pow_pos (by decide)))]
      rfl
  rw [putw_eq]
  unfold rput
  rw [Int.tmod_eq_emod_of_nonneg (h k).2.1, wrap_u8, (h k).1]
  omega
theorem rput4_raw (n : Int) : CallOK Tryd.prog (fun _ => none) 54 [.ex (.int .u64 n), .ex (.int .i64 4)] [] { val := .o 0 0 4, upd := [(0, .row (ar8 4 (rput n)))], nks := [0] } := by
  refine CallOK.from0 hmix Tryd.f54 0 fn54 (by kernel_rfl) (by kernel_rfl) (fun w ρ h1 h2 => ?_)
  refine AG.rk 68 [4] [236] 237 (todo' := [.code (sub (codeOf Tryd.f54) [1, 1, 1, 1])]) (st' := ⟨mkT 21 [(4, .o 236 0 4)], [(236, .row [Value.int .u8 (IntKind.wrap .u8 (Int.tmod n 256)), Value.int .u8 (IntKind.wrap .u8 (Int.tmod (IntKind.wrap .u64 (Int.tdiv n 256)) 256)), Value.int .u8 (IntKind.wrap .u8 (Int.tmod (IntKind.wrap .u64 (Int.tdiv (IntKind.wrap .u64 (Int.tdiv n 256)) 256)) 256)), Value.int .u8 (IntKind.wrap .u8 (Int.tmod (IntKind.wrap .u64 (Int.tdiv (IntKind.wrap .u64 (Int.tdiv (IntKind.wrap .u64 (Int.tdiv n 256)) 256)) 256)) 256))])], 237⟩) (by kernel_rfl) (by kernel_rfl) ?_
  refine AG.ren 236 0 (st' := ⟨mkT 21 [(4, .o 0 0 4)], [(0, .row [Value.int .u8 (IntKind.wrap .u8 (Int.tmod n 256)), Value.int .u8 (IntKind.wrap .u8 (Int.tmod (IntKind.wrap .u64 (Int.tdiv n 256)) 256)), Value.int .u8 (IntKind.wrap .u8 (Int.tmod (IntKind.wrap .u64 (Int.tdiv (IntKind.wrap .u64 (Int.tdiv n 256)) 256)) 256)), Value.int .u8 (IntKind.wrap .u8 (Int.tmod (IntKind.wrap .u64 (Int.tdiv (IntKind.wrap .u64 (Int.tdiv (IntKind.wrap .u64 (Int.tdiv n 256)) 256)) 256)) 256))])], 237⟩) (by kernel_rfl) (by kernel_rfl) ?_
  refine AG.fin ([.o 0 0 4]) Go.Proofs.Tryd.f54 fn54 (.inr ⟨_, rfl⟩) (obs := []) (by kernel_rfl) trivial (by kernel_rfl) ⟨(by kernel_rfl), trivial⟩ (by kernel_rfl)
theorem rput8_raw (n : Int) : CallOK Tryd.prog (fun _ => none) 54 [.ex (.int .u64 n), .ex (.int .i64 8)] [] { val := .o 0 0 8, upd := [(0, .row (ar8 8 (rput n)))], nks := [0] } := by
  refine CallOK.from0 hmix Tryd.f54 0 fn54 (by kernel_rfl) (by kernel_rfl) (fun w ρ h1 h2 => ?_)
  refine AG.rk 120 [4] [492] 493 (todo' := [.code (sub (codeOf Tryd.f54) [1, 1, 1, 1])]) (st' := ⟨mkT 21 [(4, .o 492 0 8)], [(492, .row [Value.int .u8 (IntKind.wrap .u8 (Int.tmod n 256)), Value.int .u8 (IntKind.wrap .u8 (Int.tmod (IntKind.wrap .u64 (Int.tdiv n 256)) 256)), Value.int .u8 (IntKind.wrap .u8 (Int.tmod (IntKind.wrap .u64 (Int.tdiv (IntKind.wrap .u64 (Int.tdiv n 256)) 256)) 256)), Value.int .u8 (IntKind.wrap .u8 (Int.tmod (IntKind.wrap .u64 (Int.tdiv (IntKind.wrap .u64 (Int.tdiv (IntKind.wrap .u64 (Int.tdiv n 256)) 256)) 256)) 256)), Value.int .u8 (IntKind.wrap .u8 (Int.tmod (IntKind.wrap .u64 (Int.tdiv (IntKind.wrap .u64 (Int.tdiv (IntKind.wrap .u64 (Int.tdiv (IntKind.wrap .u64 (Int.tdiv n 256)) 256)) 256)) 256)) 256)), Value.int .u8 (IntKind.wrap .u8 (Int.tmod (IntKind.wrap .u64 (Int.tdiv (IntKind.wrap .u64 (Int.tdiv (IntKind.wrap .u64 (Int.tdiv (IntKind.wrap .u64 (Int.tdiv (IntKind.wrap .u64 (Int.tdiv n 256)) 256)) 256)) 256)) 256)) 256)), Value.int .u8 (IntKind.wrap .u8 (Int.tmod (IntKind.wrap .u64 (Int.tdiv (IntKind.wrap .u64 (Int.tdiv (IntKind.wrap .u64 (Int.tdiv (IntKind.wrap .u64 (Int.tdiv (IntKind.wrap .u64 (Int.tdiv (IntKind.wrap .u64 (Int.tdiv n 256)) 256)) 256)) 256)) 256)) 256)) 256)), Value.int .u8 (IntKind.wrap .u8 (Int.tmod (IntKind.wrap .u64 (Int.tdiv (IntKind.wrap .u64 (Int.tdiv (IntKind.wrap .u64 (Int.tdiv (IntKind.wrap .u64 (Int.tdiv (IntKind.wrap .u64 (Int.tdiv (IntKind.wrap .u64 (Int.tdiv (IntKind.wrap .u64 (Int.tdiv n 256)) 256)) 256)) 256)) 256)) 256)) 256)) 256))])], 493⟩) (by kernel_rfl) (by kernel_rfl) ?_
  refine AG.ren 492 0 (st' := ⟨mkT 21 [(4, .o 0 0 8)], [(0, .row [Value.int .u8 (IntKind.wrap .u8 (Int.tmod n 256)), Value.int .u8 (IntKind.wrap .u8 (Int.tmod (IntKind.wrap .u64 (Int.tdiv n 256)) 256)), Value.int .u8 (IntKind.wrap .u8 (Int.tmod (IntKind.wrap .u64 (Int.tdiv (IntKind.wrap .u64 (Int.tdiv n 256)) 256)) 256)), Value.int .u8 (IntKind.wrap .u8 (Int.tmod (IntKind.wrap .u64 (Int.tdiv (IntKind.wrap .u64 (Int.tdiv (IntKind.wrap .u64 (Int.tdiv n 256)) 256)) 256)) 256)), Value.int .u8 (IntKind.wrap .u8 (Int.tmod (IntKind.wrap .u64 (Int.tdiv (IntKind.wrap .u64 (Int.tdiv (IntKind.wrap .u64 (Int.tdiv (IntKind.wrap .u64 (Int.tdiv n 256)) 256)) 256)) 256)) 256)), Value.int .u8 (IntKind.wrap .u8 (Int.tmod (IntKind.wrap .u64 (Int.tdiv (IntKind.wrap .u64 (Int.tdiv (IntKind.wrap .u64 (Int.tdiv (IntKind.wrap .u64 (Int.tdiv (IntKind.wrap .u64 (Int.tdiv n 256)) 256)) 256)) 256)) 256)) 256)), Value.int .u8 (IntKind.wrap .u8 (Int.tmod (IntKind.wrap .u64 (Int.tdiv (IntKind.wrap .u64 (Int.tdiv (IntKind.wrap .u64 (Int.tdiv (IntKind.wrap .u64 (Int.tdiv (IntKind.wrap .u64 (Int.tdiv (IntKind.wrap .u64 (Int.tdiv n 256)) 256)) 256)) 256)) 256)) 256)) 256)), Value.int .u8 (IntKind.wrap .u8 (Int.tmod (IntKind.wrap .u64 (Int.tdiv (IntKind.wrap .u64 (Int.tdiv (IntKind.wrap .u64 (Int.tdiv (IntKind.wrap .u64 (Int.tdiv (IntKind.wrap .u64 (Int.tdiv (IntKind.wrap .u64 (Int.tdiv (IntKind.wrap .u64 (Int.tdiv n 256)) 256)) 256)) 256)) 256)) 256)) 256)) 256))])], 493⟩) (by kernel_rfl) (by kernel_rfl) ?_
  refine AG.fin ([.o 0 0 8]) Go.Proofs.Tryd.f54 fn54 (.inr ⟨_, rfl⟩) (obs := []) (by kernel_rfl) trivial (by kernel_rfl) ⟨(by kernel_rfl), trivial⟩ (by kernel_rfl)
theorem rput4_ok (n : Int) (hn : R64 n) : CallOK Tryd.prog (fun _ => none) 54 [.ex (.int .u64 n), .ex (.int .i64 4)] [] { val := .o 0 0 4, upd := [(0, .row (ar8 4 (putw n)))], nks := [0] } := by
  rw [ar8_congr (s := putw n) (t := rput n) fun i _ => (rput_eq n hn i).symm]; exact rput4_raw n
theorem rput8_ok (n : Int) (hn : R64 n) : CallOK Tryd.prog (fun _ => none) 54 [.ex (.int .u64 n), .ex (.int .i64 8)] [] { val := .o 0 0 8, upd := [(0, .row (ar8 8 (putw n)))], nks := [0] } := by
  rw [ar8_congr (s := putw n) (t := rput n) fun i _ => (rput_eq n hn i).symm]; exact rput8_raw n
end Go.Proofs.YtlkihbmkekadeaaDoor.Ab
