/- Own: the contracts of Plus and Minus of layer 1, and the plain laws of numbers of two words (no statement is proved here). -/
import Derived.Test.YtlcjkmgeaiclbaaAwake
import Derived.Shelf.Spec.BitsCarry
namespace Go.Proofs.Ytlcjkmgeaiclbaa
open Go.ChangeShapes Go.WideShapes Go.ChangeAt Go.RowKit

/-- A word of 64 bits. -/
def W64 (x : Int) : Prop := 0 ≤ x ∧ x < 18446744073709551616
def plusLo (a b : Int) : Int := (a + b) % 18446744073709551616
def plusHi (al ah bl bh : Int) : Int := (ah + bh + (al + bl) / 18446744073709551616) % 18446744073709551616
def minusLo (a b : Int) : Int := (a - b) % 18446744073709551616
def minusHi (al ah bl bh : Int) : Int := (ah - bh - (if al < bl then 1 else 0)) % 18446744073709551616
theorem w64_plusLo (a b : Int) : W64 (plusLo a b) := ⟨by unfold plusLo; omega, by unfold plusLo; omega⟩
theorem w64_plusHi (a b c d : Int) : W64 (plusHi a b c d) := ⟨by unfold plusHi; omega, by unfold plusHi; omega⟩
theorem w64_minusLo (a b : Int) : W64 (minusLo a b) := ⟨by unfold minusLo; omega, by unfold minusLo; omega⟩
theorem w64_minusHi (a b c d : Int) : W64 (minusHi a b c d) := ⟨by unfold minusHi; omega, by unfold minusHi; omega⟩
theorem w64_zero : W64 0 := ⟨by omega, by omega⟩

theorem add64 (x y c : Int) (hx : 0 ≤ x) (hy : 0 ≤ y) (hc0 : 0 ≤ c) (hc : c ≤ 1) (w : World) : (callFunc 38 #[.int .u64 x, .int .u64 y, .int .u64 c]).run Try.prog w =
    .ok (.value (.tuple #[.int .u64 ((x + y + c) % 18446744073709551616), .int .u64 ((x + y + c) / 18446744073709551616)])) w := by
  rw [run_callFunc_extern Try.func38 (by kernel_rfl) (by kernel_rfl) (by kernel_rfl) (e := add64Entry) (by kernel_rfl), run_add64 x y c hx hy hc0 hc]
  rfl
theorem sub64 (x y b : Int) (hx : 0 ≤ x) (hy : 0 ≤ y) (hy' : y < 18446744073709551616) (hb0 : 0 ≤ b) (hb : b ≤ 1) (w : World) : (callFunc 39 #[.int .u64 x, .int .u64 y, .int .u64 b]).run Try.prog w =
    .ok (.value (.tuple #[.int .u64 ((x - y - b) % 18446744073709551616), .int .u64 (if x < y + b then 1 else 0)])) w := by
  obtain ⟨x, rfl⟩ := Int.eq_ofNat_of_zero_le hx
  obtain ⟨y, rfl⟩ := Int.eq_ofNat_of_zero_le hy
  obtain ⟨b, rfl⟩ := Int.eq_ofNat_of_zero_le hb0
  have e1 : (((x + 18446744073709551616 - y - b) % 18446744073709551616 : Nat) : Int) = ((x : Int) - y - b) % 18446744073709551616 := by omega
  have e2 : ((if x < y + b then 1 else 0 : Nat) : Int) = if (x : Int) < y + b then 1 else 0 := by split <;> split <;> omega
  rw [← e1, ← e2]
  rw [run_callFunc_extern Try.func39 (by kernel_rfl) (by kernel_rfl) (by kernel_rfl) (e := sub64Entry) (by kernel_rfl), run_sub64 x y b (by omega)]
  rfl
theorem add64_0 (x y : Int) (hx : 0 ≤ x) (hy : 0 ≤ y) (w : World) : (callFunc 38 #[.int .u64 x, .int .u64 y, .int .u64 0]).run Try.prog w =
    .ok (.value (.tuple #[.int .u64 ((x + y) % 18446744073709551616), .int .u64 ((x + y) / 18446744073709551616)])) w := by
  simpa using add64 x y 0 hx hy (Int.le_refl 0) (by decide) w
theorem sub64_0 (x y : Int) (hx : 0 ≤ x) (hy : 0 ≤ y) (hy' : y < 18446744073709551616) (w : World) : (callFunc 39 #[.int .u64 x, .int .u64 y, .int .u64 0]).run Try.prog w =
    .ok (.value (.tuple #[.int .u64 ((x - y) % 18446744073709551616), .int .u64 (if x < y then 1 else 0)])) w := by
  simpa using sub64 x y 0 hx hy hy' (Int.le_refl 0) (by decide) w

theorem plus_any (al ah bl bh : Int) (h1 : W64 al) (h2 : W64 ah) (h3 : W64 bl) (h4 : W64 bh) (w : World) :
    Calls Try.prog 24 #[.agg #[.int .u64 al, .int .u64 ah], .agg #[.int .u64 bl, .int .u64 bh]] w fun e w' =>
      e = .returned (.agg #[.int .u64 (plusLo al bl), .int .u64 (plusHi al ah bl bh)]) ∧ Below w.heap.size w w' := by
  obtain ⟨a1, a2⟩ := h1; obtain ⟨b1, b2⟩ := h2; obtain ⟨c1, c2⟩ := h3; obtain ⟨d1, d2⟩ := h4
  have k0 : 0 ≤ (al + bl) / 18446744073709551616 := by omega
  have k1 : (al + bl) / 18446744073709551616 ≤ 1 := by omega
  unfold plusLo plusHi
  go_enter Try.func24, Try.ntmps24
  go_wp2_with (first | simp only [add64_0 al bl a1 c1] | simp only [add64 ah bh _ b1 d1 k0 k1])
  simp [bodyPost, results, Try.results24, go_sem]
  exact below_alloc (below_alloc (below_alloc (Below.refl _ _) _) _) _
theorem minus_any (al ah bl bh : Int) (h1 : W64 al) (h2 : W64 ah) (h3 : W64 bl) (h4 : W64 bh) (w : World) :
    Calls Try.prog 26 #[.agg #[.int .u64 al, .int .u64 ah], .agg #[.int .u64 bl, .int .u64 bh]] w fun e w' =>
      e = .returned (.agg #[.int .u64 (minusLo al bl), .int .u64 (minusHi al ah bl bh)]) ∧ Below w.heap.size w w' := by
  obtain ⟨a1, a2⟩ := h1; obtain ⟨b1, b2⟩ := h2; obtain ⟨c1, c2⟩ := h3; obtain ⟨d1, d2⟩ := h4
  have k0 : (0 : Int) ≤ (if al < bl then 1 else 0) := by split <;> decide
  have k1 : (if al < bl then 1 else 0 : Int) ≤ 1 := by split <;> decide
  unfold minusLo minusHi
  go_enter Try.func26, Try.ntmps26
  go_wp2_with (first | simp only [sub64_0 al bl a1 c1 c2] | simp only [sub64 ah bh _ b1 d1 d2 k0 k1])
  all_goals simp [bodyPost, results, Try.results26, go_sem]
  all_goals exact below_alloc (below_alloc (below_alloc (Below.refl _ _) _) _) _

/-! The plain laws. -/
theorem plusLo_comm (a b : Int) : plusLo b a = plusLo a b := by unfold plusLo; rw [Int.add_comm]
theorem plusHi_comm (a b c d : Int) : plusHi c d a b = plusHi a b c d := by unfold plusHi; rw [Int.add_comm d b, Int.add_comm c a]
theorem plusLo_assoc (a b c : Int) : plusLo (plusLo a b) c = plusLo a (plusLo b c) := by unfold plusLo; omega
theorem plusHi_assoc (al ah bl bh cl ch : Int) : plusHi (plusLo al bl) (plusHi al ah bl bh) cl ch = plusHi al ah (plusLo bl cl) (plusHi bl bh cl ch) := by
  unfold plusHi plusLo; omega
theorem back_lo (a b : Int) (h : W64 a) : minusLo (plusLo a b) b = a := by
  obtain ⟨_, _⟩ := h; unfold minusLo plusLo; omega
theorem back_hi (al ah bl bh : Int) (h1 : W64 al) (h2 : W64 ah) (h3 : W64 bl) : minusHi (plusLo al bl) (plusHi al ah bl bh) bl bh = ah := by
  obtain ⟨_, _⟩ := h1; obtain ⟨_, _⟩ := h2; obtain ⟨_, _⟩ := h3
  unfold minusHi plusHi plusLo; split <;> omega
theorem forth_lo (a b : Int) (h : W64 a) : plusLo (minusLo a b) b = a := by
  obtain ⟨_, _⟩ := h; unfold minusLo plusLo; omega
theorem forth_hi (al ah bl bh : Int) (h1 : W64 al) (h2 : W64 ah) (h3 : W64 bl) : plusHi (minusLo al bl) (minusHi al ah bl bh) bl bh = ah := by
  obtain ⟨_, _⟩ := h1; obtain ⟨_, _⟩ := h2; obtain ⟨_, _⟩ := h3
  unfold minusHi plusHi minusLo; split <;> omega
theorem self_lo (a : Int) : minusLo a a = 0 := by unfold minusLo; omega
theorem self_hi (a b : Int) : minusHi a b a b = 0 := by unfold minusHi; rw [if_neg (by omega)]; omega
theorem none_lo (a : Int) (h : W64 a) : plusLo a 0 = a := by obtain ⟨_, _⟩ := h; unfold plusLo; omega
theorem none_hi (a b : Int) (h1 : W64 a) (h : W64 b) : plusHi a b 0 0 = b := by obtain ⟨_, _⟩ := h; obtain ⟨_, _⟩ := h1; unfold plusHi; omega
end Go.Proofs.Ytlcjkmgeaiclbaa
