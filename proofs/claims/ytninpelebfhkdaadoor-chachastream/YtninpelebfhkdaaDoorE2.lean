/- Own: the reference's block of sixteen bytes, and the stream's input by it (no statement is proved here). -/
import Derived.Test.YtninpelebfhkdaaDoorE1
import Derived.Test.YtninpelebfhkdaaDoorX2
import Derived.KernelRfl
namespace Go.Proofs.YtninpelebfhkdaaDoor.Ab
open Go.Proofs
set_option linter.unusedSimpArgs false
set_option linter.unusedVariables false
theorem long_bytes (a b c d e f g h : Int) (ha : R8 a) (hb : R8 b) (hc : R8 c) (hd : R8 d) (he : R8 e) (hf : R8 f) (hg : R8 g) (hh : R8 h) (j : Nat) (hj : j < 8) : putw (long8 a b c d e f g h) j = arf [a, b, c, d, e, f, g, h] j := by
  rw [long8_eq a b c d e f g h ha hb hc hd he hf hg hh, putw_eq]
  unfold R8 at ha hb hc hd he hf hg hh
  rcases (by omega : j = 0 ∨ j = 1 ∨ j = 2 ∨ j = 3 ∨ j = 4 ∨ j = 5 ∨ j = 6 ∨ j = 7) with rfl | rfl | rfl | rfl | rfl | rfl | rfl | rfl
  · show _ / (1 : Int) % 256 = a; omega
  · show _ / (256 : Int) % 256 = b; omega
  · show _ / (65536 : Int) % 256 = c; omega
  · show _ / (16777216 : Int) % 256 = d; omega
  · show _ / (4294967296 : Int) % 256 = e; omega
  · show _ / (1099511627776 : Int) % 256 = f; omega
  · show _ / (281474976710656 : Int) % 256 = g; omega
  · show _ / (72057594037927936 : Int) % 256 = h; omega
/-- The stream's input: a number's bytes, and the nonce's last eight. -/
theorem inp_eq (n : Int) (c : Nat → Int) (hc : ∀ j, j < 24 → R8 (c j)) (j : Nat) (hj : j < 16) : inp n c j = if j < 8 then putw n j else c (8 + j) := by
  unfold inp wbytes
  by_cases h : j < 8
  · rw [if_pos h, if_pos h]
  · rw [if_neg h, if_neg h, long_bytes _ _ _ _ _ _ _ _ (hc 16 (by decide)) (hc 17 (by decide)) (hc 18 (by decide)) (hc 19 (by decide)) (hc 20 (by decide)) (hc 21 (by decide)) (hc 22 (by decide)) (hc 23 (by decide)) _ (by omega)]
    obtain ⟨q, rfl⟩ : ∃ q, j = 8 + q := ⟨j - 8, by omega⟩
    have hq : q < 8 := by omega
    rw [show 8 + q - 8 = q by omega]
    rcases (by omega : q = 0 ∨ q = 1 ∨ q = 2 ∨ q = 3 ∨ q = 4 ∨ q = 5 ∨ q = 6 ∨ q = 7) with rfl | rfl | rfl | rfl | rfl | rfl | rfl | rfl <;> rfl
end Go.Proofs.YtninpelebfhkdaaDoor.Ab
