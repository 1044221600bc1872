/- Own: the law PrimeBack followed (no statement is proved here). -/
import Derived.Test.YtenjcieaoedfaaaP6
import Derived.KernelRfl
namespace Go.Proofs.Ytenjcieaoedfaaa.Ab
open Go.Proofs
set_option linter.unusedSimpArgs false
theorem le16_range (b : Nat → Int) (hb : A16 b) : 0 ≤ le16 b ∧ le16 b < 340282366920938463463374607431768211456 := by
  have B0 := hb 0 (by decide); have B1 := hb 1 (by decide); have B2 := hb 2 (by decide); have B3 := hb 3 (by decide); have B4 := hb 4 (by decide); have B5 := hb 5 (by decide); have B6 := hb 6 (by decide); have B7 := hb 7 (by decide); have B8 := hb 8 (by decide); have B9 := hb 9 (by decide); have B10 := hb 10 (by decide); have B11 := hb 11 (by decide); have B12 := hb 12 (by decide); have B13 := hb 13 (by decide); have B14 := hb 14 (by decide); have B15 := hb 15 (by decide)
  unfold R8 at *
  unfold le16; omega
theorem low_le16 (b : Nat → Int) (hb : A16 b) (j : Nat) (hj : j < 16) : low (le16 b) j = b j := by
  have B0 := hb 0 (by decide); have B1 := hb 1 (by decide); have B2 := hb 2 (by decide); have B3 := hb 3 (by decide); have B4 := hb 4 (by decide); have B5 := hb 5 (by decide); have B6 := hb 6 (by decide); have B7 := hb 7 (by decide); have B8 := hb 8 (by decide); have B9 := hb 9 (by decide); have B10 := hb 10 (by decide); have B11 := hb 11 (by decide); have B12 := hb 12 (by decide); have B13 := hb 13 (by decide); have B14 := hb 14 (by decide); have B15 := hb 15 (by decide)
  unfold R8 at *
  have eL : le16 b % 18446744073709551616 = b 0 + 256 * b 1 + 65536 * b 2 + 16777216 * b 3 + 4294967296 * b 4 + 1099511627776 * b 5 + 281474976710656 * b 6 + 72057594037927936 * b 7 := by unfold le16; omega
  have eH : le16 b / 18446744073709551616 % 18446744073709551616 = b 8 + 256 * b 9 + 65536 * b 10 + 16777216 * b 11 + 4294967296 * b 12 + 1099511627776 * b 13 + 281474976710656 * b 14 + 72057594037927936 * b 15 := by unfold le16; omega
  unfold low wbytes
  rw [eL, eH, putw_eq, putw_eq]
  rcases (by omega : j = 0 ∨ j = 1 ∨ j = 2 ∨ j = 3 ∨ j = 4 ∨ j = 5 ∨ j = 6 ∨ j = 7 ∨ j = 8 ∨ j = 9 ∨ j = 10 ∨ j = 11 ∨ j = 12 ∨ j = 13 ∨ j = 14 ∨ j = 15) with rfl | rfl | rfl | rfl | rfl | rfl | rfl | rfl | rfl | rfl | rfl | rfl | rfl | rfl | rfl | rfl
  · show _ / (1 : Int) % 256 = _; omega
  · show _ / (256 : Int) % 256 = _; omega
  · show _ / (65536 : Int) % 256 = _; omega
  · show _ / (16777216 : Int) % 256 = _; omega
  · show _ / (4294967296 : Int) % 256 = _; omega
  · show _ / (1099511627776 : Int) % 256 = _; omega
  · show _ / (281474976710656 : Int) % 256 = _; omega
  · show _ / (72057594037927936 : Int) % 256 = _; omega
  · show _ / (1 : Int) % 256 = _; omega
  · show _ / (256 : Int) % 256 = _; omega
  · show _ / (65536 : Int) % 256 = _; omega
  · show _ / (16777216 : Int) % 256 = _; omega
  · show _ / (4294967296 : Int) % 256 = _; omega
  · show _ / (1099511627776 : Int) % 256 = _; omega
  · show _ / (281474976710656 : Int) % 256 = _; omega
  · show _ / (72057594037927936 : Int) % 256 = _; omega
/-- The lowest 128 bits of the Num of a value. -/
def lowv (v : Int) : Nat → Int := low (v % PP)
theorem low_n (n : Nat → Int) (hn : R5 n) : CallOK Try.prog (fun _ => none) 10 [.ex (.agg (ar32 5 n).toArray)] [] { val := .ex (.agg (ar8 16 (lowv (V n))).toArray) } := low_ok n hn
theorem r32_0 : R32 0 := ⟨by decide, by decide⟩
end Go.Proofs.Ytenjcieaoedfaaa.Ab
