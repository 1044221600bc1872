/- Own: keys of layer 13's statements, and bytes with the stream (no statement is proved here). -/
import Derived.Test.YtdfbcdgneboilaaDoorT2
import Derived.Test.YtdfbcdgneboilaaDoorAZero
import Derived.KernelRfl
namespace Go.Proofs.YtdfbcdgneboilaaDoor.Ab
open Go.Proofs
set_option linter.unusedSimpArgs false
set_option linter.unusedVariables false
set_option maxRecDepth 4000
-- AGLIM=3
/-- A key of the statements, as a value. -/
def zV (z : Nat → Int) (sz : Int) : Value := .agg (ar8 32 z ++ [Value.int .u8 sz]).toArray
theorem nrnd_ok {n : Nat} (h : n = 16 ∨ n = 24 ∨ n = 32) : 0 < nrnd n ∧ nrnd n < 15 := by
  rcases h with h | h | h <;> rw [h] <;> decide
theorem all8_rngT {n : Nat} {z : Nat → Int} (h : ∀ i, i < n → R8 (z i)) : All8 ((List.range n).map z) := fun x hx => by
  obtain ⟨i, hi, rfl⟩ := List.mem_map.1 hx
  exact h i (by simpa using hi)
theorem expandr_ok {tb : List Value} (ht : tb = tabT) (n : Nat) (z : Nat → Int) (h8 : ∀ i, i < n → R8 (z i)) (hl : n = 16 ∨ n = 24 ∨ n = 32) : CallOK Tryd.prog (fun _ => none) 16 [.p 0 0, .sv 1 0 n] [(0, .own tb), (1, .view (ar8 n z))]
    { val := .tup [.p 2 0, .ex (.int .i64 0)], upd := [(2, .mix (.p 0 0 :: .ex (.int .i64 (nrnd n : Int)) :: (ar8 240 (kI ((List.range n).map z))).map .ex))], nks := [2] } := by
  have h := expand_ok ht ((List.range n).map z) (all8_rngT h8) (by simpa using hl)
  rw [mapr8, List.length_map, List.length_range] at h
  exact h
def glM : List (Nat × Nat) := [(0, 0), (1, 1)]
end Go.Proofs.YtdfbcdgneboilaaDoor.Ab
