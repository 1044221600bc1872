/- Own: laws of layer 10 followed (no statement is proved here). -/
import Derived.Test.YtdfbcdgneboilaaDoorG6
import Derived.KernelRfl
namespace Go.Proofs.YtdfbcdgneboilaaDoor.Ab
open Go.Proofs
set_option linter.unusedSimpArgs false
set_option linter.unusedVariables false
theorem byt_xor (u v : E) (j : Nat) (hj : j < 16) : xor8 (byt u j) (byt v j) = byt (u ^^^ v) j := by
  rw [xor8_eq _ _ (r8_byt u j) (r8_byt v j), byt_toNat u j hj, byt_toNat v j hj, byt_toNat _ j hj, Int.toNat_natCast, Int.toNat_natCast, BitVec.toNat_xor, Nat.xor_div_two_pow, show 256 = 2 ^ 8 from rfl, Nat.xor_mod_two_pow]
def xr16 (a b : Nat → Int) (j : Nat) : Int := xor8 (a j) (b j)
theorem lit_up : ar8 16 (byt lov) = [.int .u8 1, .int .u8 0, .int .u8 0, .int .u8 0, .int .u8 0, .int .u8 0, .int .u8 0, .int .u8 0, .int .u8 0, .int .u8 0, .int .u8 0, .int .u8 0, .int .u8 0, .int .u8 0, .int .u8 0, .int .u8 194] := by kernel_rfl
theorem lit_x : ar8 16 (byt 0x09000007#128) = [.int .u8 7, .int .u8 0, .int .u8 0, .int .u8 9, .int .u8 0, .int .u8 0, .int .u8 0, .int .u8 0, .int .u8 0, .int .u8 0, .int .u8 0, .int .u8 0, .int .u8 0, .int .u8 0, .int .u8 0, .int .u8 0] := by kernel_rfl
theorem lit_128 : ar8 16 (byt 128#128) = [.int .u8 128, .int .u8 0, .int .u8 0, .int .u8 0, .int .u8 0, .int .u8 0, .int .u8 0, .int .u8 0, .int .u8 0, .int .u8 0, .int .u8 0, .int .u8 0, .int .u8 0, .int .u8 0, .int .u8 0, .int .u8 0] := by kernel_rfl
theorem lit_1 : ar8 16 (byt 1#128) = [.int .u8 1, .int .u8 0, .int .u8 0, .int .u8 0, .int .u8 0, .int .u8 0, .int .u8 0, .int .u8 0, .int .u8 0, .int .u8 0, .int .u8 0, .int .u8 0, .int .u8 0, .int .u8 0, .int .u8 0, .int .u8 0] := by kernel_rfl
theorem lit_0 : ar8 16 (byt 0#128) = [.int .u8 0, .int .u8 0, .int .u8 0, .int .u8 0, .int .u8 0, .int .u8 0, .int .u8 0, .int .u8 0, .int .u8 0, .int .u8 0, .int .u8 0, .int .u8 0, .int .u8 0, .int .u8 0, .int .u8 0, .int .u8 0] := by kernel_rfl
theorem lit_135 : ar8 16 (byt (rv (dbl hov (rv 128#128)))) = [.int .u8 0, .int .u8 0, .int .u8 0, .int .u8 0, .int .u8 0, .int .u8 0, .int .u8 0, .int .u8 0, .int .u8 0, .int .u8 0, .int .u8 0, .int .u8 0, .int .u8 0, .int .u8 0, .int .u8 0, .int .u8 135] := by kernel_rfl
theorem eqF (f : E → Nat → Int) (x : E) : eqL [f x 0, f x 1, f x 2, f x 3, f x 4, f x 5, f x 6, f x 7, f x 8, f x 9, f x 10, f x 11, f x 12, f x 13, f x 14, f x 15] [f x 0, f x 1, f x 2, f x 3, f x 4, f x 5, f x 6, f x 7, f x 8, f x 9, f x 10, f x 11, f x 12, f x 13, f x 14, f x 15] = true := eqL_iff.2 rfl
theorem eqF' (f : E → Nat → Int) (x : E) : eqL (List.map (f x) (List.range 16)) (List.map (f x) (List.range 16)) = true := eqF f x
theorem eqX (x : E) : eqL [byt x 0, byt x 1, byt x 2, byt x 3, byt x 4, byt x 5, byt x 6, byt x 7, byt x 8, byt x 9, byt x 10, byt x 11, byt x 12, byt x 13, byt x 14, byt x 15] [byt x 0, byt x 1, byt x 2, byt x 3, byt x 4, byt x 5, byt x 6, byt x 7, byt x 8, byt x 9, byt x 10, byt x 11, byt x 12, byt x 13, byt x 14, byt x 15] = true := eqL_iff.2 rfl
theorem eqX' (x : E) : eqL (List.map (byt x) (List.range 16)) (List.map (byt x) (List.range 16)) = true := eqX x
end Go.Proofs.YtdfbcdgneboilaaDoor.Ab
