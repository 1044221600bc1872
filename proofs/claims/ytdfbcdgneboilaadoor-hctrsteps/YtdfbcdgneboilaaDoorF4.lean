/- Own: parts of layer 14 (no statement is proved here). -/
import Derived.Test.YtdfbcdgneboilaaDoorF3
import Derived.KernelRfl
namespace Go.Proofs.YtdfbcdgneboilaaDoor.Ab
open Go.Proofs
set_option linter.unusedSimpArgs false
set_option linter.unusedVariables false
set_option maxRecDepth 4000
def lastEnd (L : List (Nat × Nat × Nat)) : Nat := match L.getLast? with
  | some p => p.2.1 + p.2.2
  | none => 0
theorem lastEnd_app (L : List (Nat × Nat × Nat)) (k a s : Nat) : lastEnd (L ++ [(k, a, s)]) = a + s := by
  unfold lastEnd; rw [List.getLast?_append]; rfl
/-- The first pairs. -/
def pairL : Nat → List (Nat × Nat × Nat)
  | 0 => []
  | m + 1 => pairL m ++ [(4, 32 * m, 16)] ++ [(5, 32 * m + 16, 16)]
theorem pairL_len : ∀ m, (pairL m).length = 2 * m
  | 0 => rfl
  | m + 1 => by show (pairL m ++ [_] ++ [_]).length = _; rw [List.length_append, List.length_append, pairL_len m]; simp; omega
theorem pairL_end : ∀ m, lastEnd (pairL m) = 32 * m
  | 0 => rfl
  | m + 1 => by show lastEnd (pairL m ++ [_] ++ [(5, 32 * m + 16, 16)]) = _; rw [lastEnd_app]; omega
/-- Behind the pairs. -/
def restL (L : List (Nat × Nat × Nat)) (n P d : Nat) : List (Nat × Nat × Nat) :=
  (if d = 0 then L else if d < 16 then L ++ [(6, 32 * P, d)] else L ++ [(6, 32 * P, 16)] ++ [(7, 32 * P + 16, d - 16)]) ++ [(8, n - 32, 16)] ++ [(9, n - 16, 16)]
def aezL (n : Nat) : List (Nat × Nat × Nat) := restL (pairL ((n - 32) / 32)) n ((n - 32) / 32) ((n - 32) % 32)
/-- Why there are no parts: 0, or an error's number. -/
def refC (alg n : Int) : Int := if alg = 1 ∨ alg = 2 then (if n < 16 then 7 else if n > 65536 then 6 else 0) else if alg = 3 then (if n < 1 then 7 else if n > 65536 then 6 else 0) else 8
/-- The parts of a message. -/
def partL (alg n : Nat) : List (Nat × Nat × Nat) := if alg = 1 then [(1, 0, n - 16)] ++ [(2, n - 16, 16)] else if alg = 2 then [(3, 0, 16)] ++ [(1, 16, n - 16)] else if n < 32 then [(10, 0, n)] ++ [(11, n, n)] else aezL n
end Go.Proofs.YtdfbcdgneboilaaDoor.Ab
