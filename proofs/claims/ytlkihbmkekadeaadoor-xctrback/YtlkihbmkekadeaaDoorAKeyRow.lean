/- Own: Expand of layer 4 (no statement is proved here). -/
import Derived.Test.YtlkihbmkekadeaaDoorARounds
namespace Go.Proofs.YtlkihbmkekadeaaDoor
open Go.ChangeShapes Go.WideShapes Go.ChangeAt Go.RowKit
set_option maxRecDepth 20000

theorem bc_split (m n : Nat) (f : Nat → Nat) : bc (m + n) f = bc m f ++ bc n fun j => f (m + j) := by
  unfold bc; rw [List.range_add, List.map_append, List.map_map]; rfl
theorem bc_mid (a b n : Nat) (hn : n = a + (4 + b)) (F : Nat → Nat) : (bc n (upto a F)).take a ++ bc 4 (fun x => F (a + x)) ++ (bc n (upto a F)).drop (a + 4) = bc n (upto (a + 4) F) := by
  subst hn
  have e1 : bc (a + (4 + b)) (upto a F) = bc a (upto a F) ++ (bc 4 (fun j => upto a F (a + j)) ++ bc b (fun j => upto a F (a + (4 + j)))) := by rw [bc_split, bc_split]
  have e2 : bc (a + (4 + b)) (upto (a + 4) F) = bc a (upto (a + 4) F) ++ (bc 4 (fun j => upto (a + 4) F (a + j)) ++ bc b (fun j => upto (a + 4) F (a + (4 + j)))) := by rw [bc_split, bc_split]
  rw [e1, e2, List.take_left' (bc_len _ _), ← List.append_assoc, List.drop_left' (by rw [List.length_append, bc_len, bc_len]), List.append_assoc]
  congr 1
  · exact bc_congr fun i hi => by unfold upto; rw [if_pos hi, if_pos (by omega)]
  · congr 1
    · exact bc_congr fun i hi => by unfold upto; rw [if_pos (by omega)]
    · exact bc_congr fun i hi => by unfold upto; rw [if_neg (by omega), if_neg (by omega)]
/-- A Key's cells. -/
def keyL (g r : Nat) (F : Nat → Nat) : List Value := .pointer (some ⟨g, 0, none⟩) :: .int .i64 (r : Nat) :: bc 240 F
theorem keyL_len (g r : Nat) (F : Nat → Nat) : (keyL g r F).length = 242 := by unfold keyL; rw [List.length_cons, List.length_cons, bc_len]
theorem keyL_mid (g r a : Nat) (ha : a + 4 ≤ 240) (F : Nat → Nat) : (keyL g r (upto a F)).take (2 + a) ++ bc 4 (fun x => F (a + x)) ++ (keyL g r (upto a F)).drop (2 + a + 4) = keyL g r (upto (a + 4) F) := by
  unfold keyL
  rw [show 2 + a = a + 1 + 1 by omega, show a + 1 + 1 + 4 = a + 4 + 1 + 1 by omega, List.take_succ_cons, List.take_succ_cons, List.drop_succ_cons, List.drop_succ_cons, List.cons_append, List.cons_append, List.cons_append, List.cons_append, bc_mid a (236 - a) 240 (by omega)]
theorem copy_key (W : World) (G q i o n m g r : Nat) (hi : i < 60) (ho : o = 2 + 4 * i) (hn : 4 ≤ n) (F : Nat → Nat) (t t' : TypeId) (hg : W.heap[G]? = some (.cells (keyL g r (upto (4 * i) F)).toArray t (0, 0))) (hq : W.heap[q]? = some (.cells (bc 4 fun x => F (4 * i + x)).toArray t' (0, 0))) :
    (Builtin.copy_ #[22, 22] 3 #[.slice (some ⟨G, o, none⟩) n m, .slice (some ⟨q, 0, none⟩) 4 4]).run Tryd.prog W = .ok (goInt 4) (W.setRow G (keyL g r (upto (4 * i + 4) F)).toArray) := by
  subst ho
  have h := run_copy_row (P := Tryd.prog) W 22 22 3 5 G (2 + 4 * i) n m ⟨q, 0, none⟩ 4 4 (keyL g r (upto (4 * i) F)).toArray t (bc 4 fun x => F (4 * i + x)) Tryd.underlying22 rfl hg (by rw [bc_len]; show _ = min _ _; omega)
    (fun j v hj => by rw [addr_add, cell_of_row W q _ _ _ _ hq]; simpa using hj) (by rw [bc_len, List.size_toArray, keyL_len]; omega) (fun v hv => by unfold bc at hv; obtain ⟨i, _, rfl⟩ := List.mem_map.1 hv; rfl)
  rw [bc_len] at h
  rw [← keyL_mid g r (4 * i) (by omega) F]
  exact h
theorem bc_extract (F : Nat → Nat) (i : Nat) (hi : i < 60) : (bc 240 F).toArray.extract (i * 4) (i * 4 + 4) = (bc 4 fun r => F (4 * i + r)).toArray := by
  have e : bc 240 F = bc (4 * i) F ++ (bc 4 (fun j => F (4 * i + j)) ++ bc (236 - 4 * i) (fun j => F (4 * i + (4 + j)))) := by
    rw [← bc_split 4 (236 - 4 * i) fun j => F (4 * i + j), ← bc_split (4 * i) (4 + (236 - 4 * i)) F, show 4 * i + (4 + (236 - 4 * i)) = 240 by omega]
  rw [e, List.extract_toArray]
  congr 1
  rw [List.extract_eq_take_drop, List.drop_left' (by rw [bc_len]; omega), List.take_left' (by rw [bc_len]; omega)]
theorem index_mid (F : Nat → Nat) (i : Nat) (hi : i < 60) (w : World) : (Instr.index 73 (.agg (bc 240 F).toArray) (.int .i64 (i : Nat))).run Tryd.prog w = .ok (.agg (bc 4 fun r => F (4 * i + r)).toArray) w := by
  rw [← bc_extract F i hi]
  generalize (bc 240 F).toArray = cs
  have h : (0 : Int) ≤ (i : Int) ∧ (i : Int) < ((60 : Nat) : Int) := by omega
  have hs : (sizeOf 71).run Tryd.prog w = .ok 4 w := by kernel_rfl
  have hp : (_root_.Go.part 71 cs (i * 4)).run Tryd.prog w = .ok (.agg (cs.extract (i * 4) (i * 4 + 4))) w := by rfl
  simp [Instr.index, run_underlying Tryd.underlying73, asIntOf, hs, hp, hi]
end Go.Proofs.YtlkihbmkekadeaaDoor
