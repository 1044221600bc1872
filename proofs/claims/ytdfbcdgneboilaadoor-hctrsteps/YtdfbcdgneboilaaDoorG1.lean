/- Own: words of layer 10 (no statement is proved here). -/
import Derived.Test.YtdfbcdgneboilaaDoorO2
import Derived.Test.YtdfbcdgneboilaaDoorG0
import Derived.KernelRfl
namespace Go.Proofs.YtdfbcdgneboilaaDoor.Ab
open Go.Proofs
set_option linter.unusedSimpArgs false
set_option linter.unusedVariables false
theorem fn78 : Tryd.prog.funcs[78]? = some Tryd.f78 := by kernel_rfl
theorem fn76 : Tryd.prog.funcs[76]? = some Tryd.f76 := by kernel_rfl
theorem fn77 : Tryd.prog.funcs[77]? = some Tryd.f77 := by kernel_rfl
def xor64 (x y : Int) : Int := IntKind.u64.wrap ((BitVec.ofInt 64 x ^^^ BitVec.ofInt 64 y).toNat : Int)
def and64 (x y : Int) : Int := IntKind.u64.wrap ((BitVec.ofInt 64 x &&& BitVec.ofInt 64 y).toNat : Int)
theorem xorB (x y : BitVec 64) : xor64 (B x) (B y) = B (x ^^^ y) := by unfold xor64; rw [ofB, ofB, wrB]
theorem andB (x y : BitVec 64) : and64 (B x) (B y) = B (x &&& y) := by unfold and64; rw [ofB, ofB, wrB]
theorem orB (x y : BitVec 64) : or64 (B x) (B y) = B (x ||| y) := by unfold or64; rw [ofB, ofB, wrB]
/-- An element, as the code has it. -/
def wd (v : E) : Value := .agg #[.int .u64 (B (lo v)), .int .u64 (B (hi v))]
theorem rplus_raw (a b c d : Int) : CallOK Tryd.prog (fun _ => none) 78 [.ex (.agg #[.int .u64 a, .int .u64 b]), .ex (.agg #[.int .u64 c, .int .u64 d])] [] { val := .ex (.agg #[.int .u64 (xor64 a c), .int .u64 (xor64 b d)]) } := by
  refine CallOK.from0 hmix Tryd.f78 0 fn78 (by kernel_rfl) (by kernel_rfl) (fun w ρ h1 h2 => ?_)
  refine AG.rk 4 [4] [8] 9 (todo' := [.code (sub (codeOf Tryd.f78) [1, 1])]) (st' := ⟨mkT 16 [(4, .p 8 0)], [(8, .own [Value.int .u64 (IntKind.wrap .u64 (↑(BitVec.toNat (BitVec.ofInt 64 a ^^^ BitVec.ofInt 64 c)) : Int)), Value.int .u64 (IntKind.wrap .u64 (↑(BitVec.toNat (BitVec.ofInt 64 b ^^^ BitVec.ofInt 64 d)) : Int))])], 9⟩) (by kernel_rfl) (by kernel_rfl) ?_
  refine AG.fin ([.ex (.agg { toList := [Value.int .u64 (IntKind.wrap .u64 (↑(BitVec.toNat (BitVec.ofInt 64 a ^^^ BitVec.ofInt 64 c)) : Int)), Value.int .u64 (IntKind.wrap .u64 (↑(BitVec.toNat (BitVec.ofInt 64 b ^^^ BitVec.ofInt 64 d)) : Int))] })]) Go.Proofs.Tryd.f78 fn78 (.inr ⟨_, rfl⟩) (obs := [Ob.le 2 2]) (by kernel_rfl) ⟨(Ob.holds_of_dec (by kernel_rfl)), trivial⟩ (by kernel_rfl) trivial (by kernel_rfl)
theorem rplus_e (u v : E) : CallOK Tryd.prog (fun _ => none) 78 [.ex (wd u), .ex (wd v)] [] { val := .ex (wd (u ^^^ v)) } := by
  have h := rplus_raw (B (lo u)) (B (hi u)) (B (lo v)) (B (hi v))
  rw [xorB, xorB, ← lo_xor, ← hi_xor] at h
  exact h
theorem lo_shl1 (v : E) : lo (v <<< 1) = lo v <<< 1 := by
  apply BitVec.eq_of_getLsbD_eq
  intro i hi
  rw [bit_lo _ _ hi, BitVec.getLsbD_shiftLeft, BitVec.getLsbD_shiftLeft]
  by_cases h : i < 1
  · simp [h]
  · rw [bit_lo _ _ (by omega)]; simp [h, hi]; omega
theorem hi_shl1 (v : E) : hi (v <<< 1) = hi v <<< 1 ||| lo v >>> 63 := by
  apply BitVec.eq_of_getLsbD_eq
  intro i hi
  rw [bit_hi _ _ hi, BitVec.getLsbD_shiftLeft, BitVec.getLsbD_or, BitVec.getLsbD_shiftLeft, BitVec.getLsbD_ushiftRight]
  by_cases h : i < 1
  · obtain rfl : i = 0 := by omega
    rw [bit_lo _ _ (by decide)]; simp
  · rw [bit_hi _ _ (by omega), show (lo v).getLsbD (63 + i) = false from BitVec.getLsbD_of_ge _ _ (by omega)]
    have e : 64 + i - 1 = 64 + (i - 1) := by omega
    simp [h, hi, e]; omega
theorem msb_hi (v : E) : (B (hi v >>> 63) == 1) = v.getLsbD 127 := by
  have e : v.getLsbD 127 = (hi v).getLsbD 63 := (bit_hi v 63 (by decide)).symm
  rw [e]
  generalize hi v = x
  have h1 := x.isLt
  unfold B
  rw [BitVec.toNat_ushiftRight, Nat.shiftRight_eq_div_pow, show x.getLsbD 63 = x.toNat.testBit 63 from rfl, Nat.testBit_eq_decide_div_mod_eq]
  have : x.toNat / 2 ^ 63 = 0 ∨ x.toNat / 2 ^ 63 = 1 := by omega
  rcases this with h | h <;> rw [h] <;> rfl
theorem bAt_rng16 (b : Nat → Int) (j : Nat) (h : j < 16) : bAt ((List.range 16).map b) j = b j := by
  rw [bAt_in _ _ (by omega) (by simp; omega)]
  simp [h]
theorem load_e (v : E) : CallOK Tryd.prog (fun _ => none) 77 [.sv 0 0 16] [(0, .view (ar8 16 (byt v)))] { val := .ex (wd v) } := by
  have e1 : long8 (byt v 0) (byt v 1) (byt v 2) (byt v 3) (byt v 4) (byt v 5) (byt v 6) (byt v 7) = B (lo v) := long8_putw _ (r64_B _)
  have e2 : long8 (byt v 8) (byt v 9) (byt v 10) (byt v 11) (byt v 12) (byt v 13) (byt v 14) (byt v 15) = B (hi v) := long8_putw _ (r64_B _)
  unfold wd
  rw [← e1, ← e2]
  generalize byt v = b
  refine CallOK.from0 hmix Tryd.f77 1 fn77 (by kernel_rfl) (by kernel_rfl) (fun w ρ h1 h2 => ?_)
  refine AG.rk 3 [0, 2] [0, 1] 2 (todo' := [.code (sub (codeOf Tryd.f77) [1, 0]), .code (sub (codeOf Tryd.f77) [1, 1])]) (st' := ⟨mkT 8 [(0, .sv 0 0 16), (2, .p 1 0)], [(0, .view (ar8 16 b)), (1, .own [Value.int .u64 0, Value.int .u64 0])], 2⟩) (by kernel_rfl) (by kernel_rfl) ?_
  refine AG.gk [] [(1, useR [(0, 0, 0)] 6 ({ val := .ex (.int .u64 (long8 (bAt (List.map b (List.range 16)) (0 + 0)) (bAt (List.map b (List.range 16)) (0 + 1)) (bAt (List.map b (List.range 16)) (0 + 2)) (bAt (List.map b (List.range 16)) (0 + 3)) (bAt (List.map b (List.range 16)) (0 + 4)) (bAt (List.map b (List.range 16)) (0 + 5)) (bAt (List.map b (List.range 16)) (0 + 6)) (bAt (List.map b (List.range 16)) (0 + 7)))) })), (3, useR [(0, 0, 0)] 14 ({ val := .ex (.int .u64 (long8 (bAt (List.map b (List.range 16)) (8 + 0)) (bAt (List.map b (List.range 16)) (8 + 1)) (bAt (List.map b (List.range 16)) (8 + 2)) (bAt (List.map b (List.range 16)) (8 + 3)) (bAt (List.map b (List.range 16)) (8 + 4)) (bAt (List.map b (List.range 16)) (8 + 5)) (bAt (List.map b (List.range 16)) (8 + 6)) (bAt (List.map b (List.range 16)) (8 + 7)))) }))] [2] [0, 1] 2 (st' := ⟨mkT 8 [(2, .p 1 0)], [(0, .view (ar8 16 b)), (1, .own [Value.int .u64 (long8 (b 0) (b 1) (b 2) (b 3) (b 4) (b 5) (b 6) (b 7)), Value.int .u64 (long8 (b 8) (b 9) (b 10) (b 11) (b 12) (b 13) (b 14) (b 15))])], 2⟩) (obs := [Ob.call (fun g => List.lookup g []) 82 [.sv 0 0 16, .ex (.int .i64 0)] [(0, .view (ar8 16 b))] (useR [(0, 0, 0)] 6 { val := .ex (.int .u64 (long8 (bAt (List.map b (List.range 16)) (0 + 0)) (bAt (List.map b (List.range 16)) (0 + 1)) (bAt (List.map b (List.range 16)) (0 + 2)) (bAt (List.map b (List.range 16)) (0 + 3)) (bAt (List.map b (List.range 16)) (0 + 4)) (bAt (List.map b (List.range 16)) (0 + 5)) (bAt (List.map b (List.range 16)) (0 + 6)) (bAt (List.map b (List.range 16)) (0 + 7)))) }), Ob.call (fun g => List.lookup g []) 82 [.sv 0 0 16, .ex (.int .i64 8)] [(0, .view (ar8 16 b))] (useR [(0, 0, 0)] 14 { val := .ex (.int .u64 (long8 (bAt (List.map b (List.range 16)) (8 + 0)) (bAt (List.map b (List.range 16)) (8 + 1)) (bAt (List.map b (List.range 16)) (8 + 2)) (bAt (List.map b (List.range 16)) (8 + 3)) (bAt (List.map b (List.range 16)) (8 + 4)) (bAt (List.map b (List.range 16)) (8 + 5)) (bAt (List.map b (List.range 16)) (8 + 6)) (bAt (List.map b (List.range 16)) (8 + 7)))) })]) (by kernel_rfl) (by kernel_rfl) ⟨(CallOK.at0 [(0, 0, 0)] 6 (Go.Proofs.YtdfbcdgneboilaaDoor.Ab.long_ok (List.map b (List.range 16)) (0) (by simp)) (.cons (.vvE rfl rfl (by (first | rfl | (simp; done) | (simp; omega) | omega | assumption))) (.cons (.ex _) .nil)) (.cons rfl rfl ⟨_, rfl, (by exact cov_all _)⟩ .nil) (by kernel_rfl)), (CallOK.at0 [(0, 0, 0)] 14 (Go.Proofs.YtdfbcdgneboilaaDoor.Ab.long_ok (List.map b (List.range 16)) (8) (by simp)) (.cons (.vvE rfl rfl (by (first | rfl | (simp; done) | (simp; omega) | omega | assumption))) (.cons (.ex _) .nil)) (.cons rfl rfl ⟨_, rfl, (by exact cov_all _)⟩ .nil) (by kernel_rfl)), trivial⟩ ?_
  refine AG.fin ([.ex (.agg { toList := [Value.int .u64 (long8 (b 0) (b 1) (b 2) (b 3) (b 4) (b 5) (b 6) (b 7)), Value.int .u64 (long8 (b 8) (b 9) (b 10) (b 11) (b 12) (b 13) (b 14) (b 15))] })]) Go.Proofs.Tryd.f77 fn77 (.inr ⟨_, rfl⟩) (obs := [Ob.le 2 2]) (by kernel_rfl) ⟨(Ob.holds_of_dec (by kernel_rfl)), trivial⟩ (by kernel_rfl) trivial (by kernel_rfl)
theorem wbytes_byt (v : E) : wbytes (B (lo v)) (B (hi v)) = byt v := rfl
theorem bytes_e (v : E) : CallOK Tryd.prog (fun _ => none) 58 [.ex (wd v)] [] { val := .ex (.agg (ar8 16 (byt v)).toArray) } := bytes_ok (B (lo v)) (B (hi v))
end Go.Proofs.YtdfbcdgneboilaaDoor.Ab
