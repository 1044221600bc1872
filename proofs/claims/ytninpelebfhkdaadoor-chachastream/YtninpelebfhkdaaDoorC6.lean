/- Own: numbers and their bytes, reckoned (no statement is proved here). -/
import Derived.Test.YtninpelebfhkdaaDoorC5
import Derived.KernelRfl
namespace Go.Proofs.YtninpelebfhkdaaDoor.Ab
open Go.Proofs
set_option linter.unusedSimpArgs false
theorem r32_rot (x : Int) (k : Nat) : R32 (rot32 x k) := r32_wrap _
theorem r32_add (x y : Int) : R32 (add32 x y) := r32_wrap _
theorem r32_qA (a b c d : Int) : R32 (qA a b c d) := r32_add _ _
theorem r32_qB (a b c d : Int) : R32 (qB a b c d) := r32_rot _ _
theorem r32_qC (a b c d : Int) : R32 (qC a b c d) := r32_add _ _
theorem r32_qD (a b c d : Int) : R32 (qD a b c d) := r32_rot _ _
theorem r32_qs (s : Nat → Int) (a b c d j : Nat) (h : R32 (s j) ∨ j = a ∨ j = b ∨ j = c ∨ j = d) : R32 (qs s a b c d j) := by
  unfold qs
  split
  · exact r32_qA _ _ _ _
  split
  · exact r32_qB _ _ _ _
  split
  · exact r32_qC _ _ _ _
  split
  · exact r32_qD _ _ _ _
  · rcases h with h | h | h | h | h
    · exact h
    · contradiction
    · contradiction
    · contradiction
    · contradiction
theorem r32_two (s : Nat → Int) (j : Nat) (hj : j < 16) : R32 (two s j) := by
  unfold two
  have hc : (j = 0 ∨ j = 5 ∨ j = 10 ∨ j = 15) ∨ (j = 1 ∨ j = 6 ∨ j = 11 ∨ j = 12) ∨ (j = 2 ∨ j = 7 ∨ j = 8 ∨ j = 13) ∨ (j = 3 ∨ j = 4 ∨ j = 9 ∨ j = 14) := by omega
  refine r32_qs _ _ _ _ _ _ ?_
  rcases hc with h | h | h | h
  · exact .inl (r32_qs _ _ _ _ _ _ (.inl (r32_qs _ _ _ _ _ _ (.inl (r32_qs _ _ _ _ _ _ (.inr h))))))
  · exact .inl (r32_qs _ _ _ _ _ _ (.inl (r32_qs _ _ _ _ _ _ (.inr h))))
  · exact .inl (r32_qs _ _ _ _ _ _ (.inr h))
  · exact .inr h
theorem r32_twoN : ∀ (n : Nat) (s : Nat → Int) (j : Nat), j < 16 → R32 (twoN (n + 1) s j)
  | 0, s, j, hj => r32_two s j hj
  | n + 1, s, j, hj => r32_twoN n (two s) j hj
theorem r32_mixr (r : Int) (hr : r = 8 ∨ r = 12 ∨ r = 20) (s : Nat → Int) (j : Nat) (hj : j < 16) : R32 (mixr r s j) := by
  rcases hr with rfl | rfl | rfl
  · exact r32_twoN 3 s j hj
  · exact r32_twoN 5 s j hj
  · exact r32_twoN 9 s j hj
theorem r32_stt (k i : Nat → Int) (j : Nat) : R32 (stt k i j) := by
  unfold stt
  split
  · rename_i h
    match j, h with
    | 0, _ => exact ⟨by decide, by decide⟩
    | 1, _ => exact ⟨by decide, by decide⟩
    | 2, _ => exact ⟨by decide, by decide⟩
    | 3, _ => exact ⟨by decide, by decide⟩
  · split
    · exact r32_wrap _
    · exact r32_wrap _
end Go.Proofs.YtninpelebfhkdaaDoor.Ab
