/- Own: rows of numbers, as cells (no statement is proved here). -/
import Derived.Test.YtenjcieaoedfaaaDoorO0
namespace Go.Proofs.YtenjcieaoedfaaaDoor.Ab
open Go.Proofs
/-- Rows of numbers, as cells. -/
def cellsR (rs : List (List Int)) : List (List Value) := rs.map (List.map (Value.int .u8))
theorem len_cellsR (rs : List (List Int)) : (cellsR rs).length = rs.length := by simp [cellsR]
theorem get_cellsR (rs : List (List Int)) (i : Nat) (h : i < rs.length) : (cellsR rs).getD i [] = (rs.getD i []).map (Value.int .u8) := by
  unfold cellsR
  rw [List.getD_eq_getElem?_getD, List.getD_eq_getElem?_getD, List.getElem?_map, List.getElem?_eq_getElem h]; rfl
/-- What is said of the old blocks, one by one. -/
def OAll (ρ : Rho) (W : World) : List (Nat × Blk) → Prop
  | [] => True
  | (k, b) :: l => OldB W (fun _ => False) ρ k b ∧ OAll ρ W l
theorem OAll.mem {ρ : Rho} {W : World} : ∀ {M : List (Nat × Blk)}, OAll ρ W M → ∀ k b, (k, b) ∈ M → OldB W (fun _ => False) ρ k b
  | (_, _) :: _, h, k, b, hm => by
    rcases List.mem_cons.1 hm with e | hm
    · cases e; exact h.1
    · exact OAll.mem h.2 k b hm
end Go.Proofs.YtenjcieaoedfaaaDoor.Ab
