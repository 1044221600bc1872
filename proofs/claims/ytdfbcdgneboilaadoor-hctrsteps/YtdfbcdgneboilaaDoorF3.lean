/- Own: parts of layer 14 (no statement is proved here). -/
import Derived.Test.YtdfbcdgneboilaaDoorF0
import Derived.Test.YtdfbcdgneboilaaDoorN0
import Derived.KernelRfl
namespace Go.Proofs.YtdfbcdgneboilaaDoor.Ab
open Go.Proofs
set_option linter.unusedSimpArgs false
set_option linter.unusedVariables false
set_option maxRecDepth 4000
/-- A part's cells. -/
def p1 (p : Nat × Nat × Nat) : List Value := [.int .i64 (p.1 : Int), .complex .f64 (fb p.2.1) (fb p.2.2)]
def pc : List (Nat × Nat × Nat) → List Value
  | [] => []
  | p :: l => p1 p ++ pc l
theorem pc_app (l m : List (Nat × Nat × Nat)) : pc (l ++ m) = pc l ++ pc m := by
  induction l with
  | nil => rfl
  | cons p l ih => show p1 p ++ pc (l ++ m) = (p1 p ++ pc l) ++ pc m; rw [ih, List.append_assoc]
theorem pc_len (l : List (Nat × Nat × Nat)) : (pc l).length = 2 * l.length := by
  induction l with
  | nil => rfl
  | cons p l ih => show (p1 p ++ pc l).length = _; rw [List.length_append, ih, List.length_cons]; show 2 + _ = _; omega
theorem pc_get (l : List (Nat × Nat × Nat)) (i : Nat) (p : Nat × Nat × Nat) (h : l[i]? = some p) : (pc l)[2 * i]? = some (.int .i64 (p.1 : Int)) ∧ (pc l)[2 * i + 1]? = some (.complex .f64 (fb p.2.1) (fb p.2.2)) := by
  induction l generalizing i with
  | nil => simp at h
  | cons q l ih =>
    cases i with
    | zero => simp at h; subst h; exact ⟨rfl, rfl⟩
    | succ i =>
      simp at h
      have := ih i h
      show (p1 q ++ pc l)[2 * (i + 1)]? = _ ∧ (p1 q ++ pc l)[2 * (i + 1) + 1]? = _
      rw [List.getElem?_append_right (by show 2 ≤ _; omega), List.getElem?_append_right (by show 2 ≤ _; omega)]
      show (pc l)[2 * (i + 1) - 2]? = _ ∧ (pc l)[2 * (i + 1) + 1 - 2]? = _
      rw [show 2 * (i + 1) - 2 = 2 * i by omega, show 2 * (i + 1) + 1 - 2 = 2 * i + 1 by omega]
      exact this
end Go.Proofs.YtdfbcdgneboilaaDoor.Ab
