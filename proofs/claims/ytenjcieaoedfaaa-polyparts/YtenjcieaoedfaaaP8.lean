/- Own: the laws PrimeMakes, PrimeForms, PrimeSums, PrimeProducts followed (no statement is proved here). -/
import Derived.Test.YtenjcieaoedfaaaP7
import Derived.Test.YtenjcieaoedfaaaR7e
import Derived.KernelRfl
namespace Go.Proofs.Ytenjcieaoedfaaa.Ab
open Go.Proofs
set_option linter.unusedSimpArgs false
theorem rst_range (x : Int) (i : Nat) : R8 (rst x i) := r8_dig _ _
theorem leN_rst (x : Int) : leN 17 (rst x) = x % 1361129467683753853853498429727072845819 := by
  unfold rst
  rw [leN_dig, Int.emod_eq_of_lt (by omega)]
  rw [show (256 : Int) ^ 17 = 87112285931760246646623899502532662132736 from rfl]; omega
theorem rst_congr {x y : Int} (h : x % 1361129467683753853853498429727072845819 = y % 1361129467683753853853498429727072845819) : rst x = rst y := by unfold rst; rw [h]
theorem VN_V (n : Nat → Int) : VN 5 n = V n := by
  show 0 + 1 * n 0 + 67108864 * n 1 + 4503599627370496 * n 2 + 302231454903657293676544 * n 3 + 20282409603651670423947251286016 * n 4 = _
  unfold V; omega
theorem leN16 (b : Nat → Int) : leN 16 b = le16 b := by
  show 0 + 1 * b 0 + 256 * b 1 + 65536 * b 2 + 16777216 * b 3 + 4294967296 * b 4 + 1099511627776 * b 5 + 281474976710656 * b 6 + 72057594037927936 * b 7 + 18446744073709551616 * b 8 + 4722366482869645213696 * b 9 + 1208925819614629174706176 * b 10 + 309485009821345068724781056 * b 11 + 79228162514264337593543950336 * b 12 + 20282409603651670423947251286016 * b 13 + 5192296858534827628530496329220096 * b 14 + 1329227995784915872903807060280344576 * b 15 = _
  unfold le16; omega
theorem ofL_eq (b : Nat → Int) (h : Int) (hh : R32 h) : leL (ofL b h) = le16 b + h * 340282366920938463463374607431768211456 := by
  unfold ofL
  rw [leL_append, leL_map, leN16]
  have e : leL [putw h 0, putw h 1, putw h 2, putw h 3] = h := by
    unfold R32 at hh
    show putw h 0 + 256 * (putw h 1 + 256 * (putw h 2 + 256 * (putw h 3 + 256 * 0))) = h
    rw [putw_eq, putw_eq, putw_eq, putw_eq, show (2 : Int) ^ (8 * 0) = 1 from rfl, show (2 : Int) ^ (8 * 1) = 256 from rfl, show (2 : Int) ^ (8 * 2) = 65536 from rfl, show (2 : Int) ^ (8 * 3) = 16777216 from rfl]
    omega
  rw [e]
  simp only [List.length_map, List.length_range]
  rw [Int.mul_comm h]; rfl
theorem low_rst (v : Int) (j : Nat) (hj : j < 16) : lowv v j = rst v j := by
  have key : ∀ x : Int, low x j = dig x j := fun x => by
    unfold low wbytes dig
    rw [putw_eq, putw_eq]
    rcases (by omega : j = 0 ∨ j = 1 ∨ j = 2 ∨ j = 3 ∨ j = 4 ∨ j = 5 ∨ j = 6 ∨ j = 7 ∨ j = 8 ∨ j = 9 ∨ j = 10 ∨ j = 11 ∨ j = 12 ∨ j = 13 ∨ j = 14 ∨ j = 15) with rfl | rfl | rfl | rfl | rfl | rfl | rfl | rfl | rfl | rfl | rfl | rfl | rfl | rfl | rfl | rfl
    · show x % 18446744073709551616 / 1 % 256 = x / 1 % 256; omega
    · show x % 18446744073709551616 / 256 % 256 = x / 256 % 256; omega
    · show x % 18446744073709551616 / 65536 % 256 = x / 65536 % 256; omega
    · show x % 18446744073709551616 / 16777216 % 256 = x / 16777216 % 256; omega
    · show x % 18446744073709551616 / 4294967296 % 256 = x / 4294967296 % 256; omega
    · show x % 18446744073709551616 / 1099511627776 % 256 = x / 1099511627776 % 256; omega
    · show x % 18446744073709551616 / 281474976710656 % 256 = x / 281474976710656 % 256; omega
    · show x % 18446744073709551616 / 72057594037927936 % 256 = x / 72057594037927936 % 256; omega
    · show x / 18446744073709551616 % 18446744073709551616 / 1 % 256 = x / 18446744073709551616 % 256; omega
    · show x / 18446744073709551616 % 18446744073709551616 / 256 % 256 = x / 4722366482869645213696 % 256; omega
    · show x / 18446744073709551616 % 18446744073709551616 / 65536 % 256 = x / 1208925819614629174706176 % 256; omega
    · show x / 18446744073709551616 % 18446744073709551616 / 16777216 % 256 = x / 309485009821345068724781056 % 256; omega
    · show x / 18446744073709551616 % 18446744073709551616 / 4294967296 % 256 = x / 79228162514264337593543950336 % 256; omega
    · show x / 18446744073709551616 % 18446744073709551616 / 1099511627776 % 256 = x / 20282409603651670423947251286016 % 256; omega
    · show x / 18446744073709551616 % 18446744073709551616 / 281474976710656 % 256 = x / 5192296858534827628530496329220096 % 256; omega
    · show x / 18446744073709551616 % 18446744073709551616 / 72057594037927936 % 256 = x / 1329227995784915872903807060280344576 % 256; omega
  exact key _
end Go.Proofs.Ytenjcieaoedfaaa.Ab
