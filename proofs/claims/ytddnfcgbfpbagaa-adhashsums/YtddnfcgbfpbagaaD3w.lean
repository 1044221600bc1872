/- Own: bytes of blocks as two numbers; pieces of rows (no statement is proved here). -/
import Derived.Test.YtddnfcgbfpbagaaD3
import Derived.KernelRfl
namespace Go.Proofs.Ytddnfcgbfpbagaa.Ab
open Go.Proofs
set_option linter.unusedSimpArgs false
set_option linter.unusedVariables false
theorem wb_dig (lo hi : Int) (h1 : R64 lo) (h2 : R64 hi) (j : Nat) (hj : j < 16) : wbytes lo hi j = dig (lo + 18446744073709551616 * hi) j := by
  unfold R64 at h1 h2
  unfold wbytes dig
  rcases (by omega : j = 0 ∨ j = 1 ∨ j = 2 ∨ j = 3 ∨ j = 4 ∨ j = 5 ∨ j = 6 ∨ j = 7 ∨ j = 8 ∨ j = 9 ∨ j = 10 ∨ j = 11 ∨ j = 12 ∨ j = 13 ∨ j = 14 ∨ j = 15) with rfl | rfl | rfl | rfl | rfl | rfl | rfl | rfl | rfl | rfl | rfl | rfl | rfl | rfl | rfl | rfl <;> (simp [putw_eq]; try omega)
theorem leN16_w2 (f : Nat → Int) (hf : A16 f) : leN 16 f = w2lo f + 18446744073709551616 * w2hi f := by
  unfold w2lo w2hi
  rw [long8_eq _ _ _ _ _ _ _ _ (hf 0 (by decide)) (hf 1 (by decide)) (hf 2 (by decide)) (hf 3 (by decide)) (hf 4 (by decide)) (hf 5 (by decide)) (hf 6 (by decide)) (hf 7 (by decide)), long8_eq _ _ _ _ _ _ _ _ (hf 8 (by decide)) (hf 9 (by decide)) (hf 10 (by decide)) (hf 11 (by decide)) (hf 12 (by decide)) (hf 13 (by decide)) (hf 14 (by decide)) (hf 15 (by decide))]
  simp only [leN]
  omega
theorem wb_w2 (f : Nat → Int) (hf : A16 f) (j : Nat) (hj : j < 16) : wbytes (w2lo f) (w2hi f) j = f j := by
  have h1 : R64 (w2lo f) := r64_long8 _ _ _ _ _ _ _ _
  have h2 : R64 (w2hi f) := r64_long8 _ _ _ _ _ _ _ _
  rw [wb_dig _ _ h1 h2 j hj, ← leN16_w2 f hf]
  exact dig_leN 16 f hf j hj
theorem r8_lowv (v : Int) (j : Nat) (hj : j < 16) : R8 (lowv v j) := by rw [low_rst _ _ hj]; exact r8_dig _ _
/-- A piece of a row. -/
def piece (ps : List Int) (u n : Nat) : List Int := (ps.drop (1024 * u)).take n
theorem piece_eq (ps : List Int) (u n : Nat) (hn : n = min (ps.length - 1024 * u) 1024) : piece ps u 1024 = piece ps u n := by
  unfold piece
  by_cases h : n = 1024
  · rw [h]
  · rw [List.take_of_length_le (by rw [List.length_drop]; omega), List.take_of_length_le (by rw [List.length_drop]; omega)]
theorem piece_len (ps : List Int) (u n : Nat) (hn : n = min (ps.length - 1024 * u) 1024) : (piece ps u n).length = n := by
  unfold piece; rw [List.length_take, List.length_drop]; omega
theorem pcs_succ (W : Nat → Int) (ps : List Int) (u n : Nat) (hn : n = min (ps.length - 1024 * u) 1024) : (pcsL W ps u).map (Value.int .u8) ++ ar8 32 (pcH W (piece ps u n)) = (pcsL W ps (u + 1)).map (Value.int .u8) := by
  rw [← piece_eq ps u n hn]
  show _ = (pcsL W ps u ++ (List.range 32).map (pcH W (piece ps u 1024))).map (Value.int .u8)
  rw [List.map_append, mapr]
theorem piece_map (ps : List Int) (u n : Nat) : (piece ps u n).map (Value.int .u8) = List.take n (List.drop (1024 * u) (ps.map (Value.int .u8))) := by
  unfold piece; rw [List.map_take, List.map_drop]
def kA (kb : List Int) : Nat → Int := fun i => bAt kb i
def kB (kb : List Int) : Nat → Int := fun i => bAt (kb.drop 16) i
end Go.Proofs.Ytddnfcgbfpbagaa.Ab
