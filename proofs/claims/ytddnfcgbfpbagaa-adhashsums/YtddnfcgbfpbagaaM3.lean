/- Own: what layer 9's example says; the laws NhSwaps, NhPasses, NhMore followed (no statement is proved here). -/
import Derived.Test.YtddnfcgbfpbagaaM2
import Derived.KernelRfl
namespace Go.Proofs.Ytddnfcgbfpbagaa.Ab
open Go.Proofs
set_option linter.unusedSimpArgs false
set_option linter.unusedVariables false
theorem r64_pas (ws bs : List Int) (p u : Nat) : R64 (pas ws bs p u) := by
  cases u with
  | zero => exact ⟨by simp [pas], by simp [pas]⟩
  | succ u => exact r64_wrap _
/-- Eight bytes of a hash are a pass. -/
theorem tld_long (F : Nat → Int) (p : Nat) (h : R64 (F p)) : long8 (tld F (8 * p)) (tld F (8 * p + 1)) (tld F (8 * p + 2)) (tld F (8 * p + 3)) (tld F (8 * p + 4)) (tld F (8 * p + 5)) (tld F (8 * p + 6)) (tld F (8 * p + 7)) = F p := by
  have e : ∀ j, j < 8 → tld F (8 * p + j) = putw (F p) j := fun j hj => by
    unfold tld
    rw [show (8 * p + j) / 8 = p by omega, show (8 * p + j) % 8 = j by omega]
  rw [show tld F (8 * p) = putw (F p) 0 from e 0 (by decide), e 1 (by decide), e 2 (by decide), e 3 (by decide), e 4 (by decide), e 5 (by decide), e 6 (by decide), e 7 (by decide)]
  exact long8_putw _ h
theorem mul2_comm (a k b l : Int) : mul2 a k b l = mul2 b l a k := by unfold mul2; rw [Int.mul_comm]
theorem map_ar32 (n : Nat) (f : Nat → Int) : ((List.range n).map f).map (Value.int .u32) = ar32 n f := by rw [List.map_map]; rfl
theorem map_ar8 (n : Nat) (f : Nat → Int) : ((List.range n).map f).map (Value.int .u8) = ar8 n f := by rw [List.map_map]; rfl
theorem bAt_range (n : Nat) (f : Nat → Int) (j : Nat) (h : j < n) : bAt ((List.range n).map f) j = f j := by
  rw [bAt_in _ _ (by omega) (by simp; omega)]
  simp [h]
theorem prod4_congr {u u' k k' : Nat → Int} (hu : ∀ i, i < 4 → u i = u' i) (hk : ∀ i, i < 4 → k i = k' i) : prod4 u k = prod4 u' k' := by
  unfold prod4
  rw [hu 0 (by decide), hu 1 (by decide), hu 2 (by decide), hu 3 (by decide), hk 0 (by decide), hk 1 (by decide), hk 2 (by decide), hk 3 (by decide)]
theorem pas_one (ws bs : List Int) (p : Nat) : pas ws bs p (16 / 16) = IntKind.u64.wrap (0 + prod4 (numU bs 0) (fun i => bAt ws (4 * 0 + 4 * p + i : Nat))) := rfl
/-- The hash of one unit by sixteen words: its first pass. -/
theorem hash_one (k u : Nat → Int) : ∃ X : Nat → Int, long8 (X 0) (X 1) (X 2) (X 3) (X 4) (X 5) (X 6) (X 7) = IntKind.u64.wrap (0 + prod4 (fun i => word4 (u (4 * i)) (u (4 * i + 1)) (u (4 * i + 2)) (u (4 * i + 3))) k) ∧
    CallOK Try.prog (fun _ => none) 30 [.sv 0 0 16, .sv 1 0 16] [(0, .view (ar32 16 k)), (1, .view (ar8 16 u))] { val := .tup [.ex (.agg (ar8 32 X).toArray), .ex (.int .i64 0)] } := by
  have h := nhash_ok ((List.range 16).map k) ((List.range 16).map u) (by simp) (by simp) (by simp)
  rw [map_ar32, map_ar8, List.length_map, List.length_map, List.length_range] at h
  refine ⟨_, ?_, h⟩
  refine Eq.trans (tld_long (fun p => pas ((List.range 16).map k) ((List.range 16).map u) p (16 / 16)) 0 (r64_pas _ _ _ _)) ((pas_one _ _ 0).trans ?_)
  have B : ∀ j, j < 16 → bAt ((List.range 16).map u) (j : Nat) = u j := fun j hj => bAt_range 16 u j hj
  have K : ∀ j, j < 16 → bAt ((List.range 16).map k) (j : Nat) = k j := fun j hj => bAt_range 16 k j hj
  have N : ∀ i, i < 4 → numU ((List.range 16).map u) 0 i = word4 (u (4 * i)) (u (4 * i + 1)) (u (4 * i + 2)) (u (4 * i + 3)) := fun i hi => by
    unfold numU
    rw [B _ (by omega), B _ (by omega), B _ (by omega), B _ (by omega)]
    simp only [Nat.mul_zero, Nat.zero_add]
  rw [prod4_congr (u' := fun i => word4 (u (4 * i)) (u (4 * i + 1)) (u (4 * i + 2)) (u (4 * i + 3))) (k' := k) N fun i hi => (K _ (by omega)).trans (congrArg k (by omega))]
end Go.Proofs.Ytddnfcgbfpbagaa.Ab
