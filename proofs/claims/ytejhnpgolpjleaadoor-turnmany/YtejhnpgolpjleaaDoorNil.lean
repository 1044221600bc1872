/- Own: what calls of layer 3 with nil tables answer (no statement is proved here). -/
import Derived.Test.YtejhnpgolpjleaaDoorTurn
namespace Go.Proofs.YtejhnpgolpjleaaDoor
open Go.ChangeShapes Go.WideShapes Go.ChangeAt Go.RowKit

/-- A row is loaded by an operation behind a guard that lets it by. -/
theorem wpList_load_g {P : Program} {ops : Array Oper} {rest : List Oper} {op : Oper} {a : Act} {w : World} {Q : Exit → Act → World → Prop} (hw : Region.wanted op (yielded ops a.tmps) = true) (ty : TypeId) (x : Operand) (ho : op.op = .load ty x)
    (b o : Nat) (hx : a.eval x = .pointer (some ⟨b, o, none⟩)) (cs : List Value) (d : TypeDesc) (hc : w.rangeAt b o cs)
    (hu : P.underlying ty = some d) (hd : d.isRow = true) (hi : (P.info? ty).map (·.size) = some cs.length)
    (h : wpList P ops Q rest (a.put op.dst (.agg cs.toArray)) w) : wpList P ops Q (op :: rest) a w :=
  wpList_step fun K hK => by rw [if_pos hw]; exact wp_load_mid ty x ho b o hx cs d hc hu hd hi (hK _ _ h)

set_option maxRecDepth 100000 in
theorem round_nil (X Y : List Value) (w : World) : Calls Tryd.prog 13 #[.pointer none, .agg X.toArray, .agg Y.toArray] w fun e w' => e = .returned (.agg (bc 16 fun _ => 0).toArray) ∧ Below w.heap.size w w' := by
  obtain ⟨Z, hZ⟩ : ∃ Z, Z = bc 16 (fun _ => 0) := ⟨_, rfl⟩
  have hz := zero16
  rw [← hZ] at hz ⊢
  have hZl : Z.toArray.size = 16 := by rw [hZ, List.size_toArray, bc_len]
  have o : Hid (Z.toArray.all (·.oneCell') = true) := by rw [hZ]; exact bc_one _ _
  have R1 : Hid ((((w.alloc (.cells X.toArray 22)).alloc (.cells Y.toArray 22)).alloc (.cells Z.toArray 22)).heap[w.heap.size + 1 + 1]? = some (.cells Z.toArray 22 (0, 0))) := by
    have s' : ∀ (w : World) (o : Obj), (w.alloc o).heap.size = w.heap.size + 1 := fun w o => by simp
    rw [← s' w (.cells X.toArray 22), ← s' _ (.cells Y.toArray 22)]; exact heap_alloc_new _ _
  clear hZ
  go_enter Tryd.func13, Tryd.ntmps13
  go_wp2_with (refine wpList_store_row rfl 22 _ _ rfl (w.heap.size + 1 + 1) Z.toArray rfl rfl 22 Z.toArray R1.out (by rw [hZl]; rfl) rfl o.out ?_)
  refine bodyPost_ret (v := .agg Z.toArray) (results_cell_row rfl _ _ (w.heap.size + 1 + 1) 22 Z.toArray (0, 0) _ rfl (setRow_heap _ _ _ _ _ _ R1.out) Tryd.underlying22 rfl (by rw [hZl]; rfl)) rfl ⟨rfl, ?_⟩
  exact below_setRow (below_alloc (below_alloc (below_alloc (Below.refl _ _) _) _) _) (by omega) _
set_option maxRecDepth 100000 in
theorem last_nil (X Y : List Value) (w : World) : Calls Tryd.prog 14 #[.pointer none, .agg X.toArray, .agg Y.toArray] w fun e w' => e = .returned (.agg (bc 16 fun _ => 0).toArray) ∧ Below w.heap.size w w' := by
  obtain ⟨Z, hZ⟩ : ∃ Z, Z = bc 16 (fun _ => 0) := ⟨_, rfl⟩
  have hz := zero16
  rw [← hZ] at hz ⊢
  have hZl : Z.toArray.size = 16 := by rw [hZ, List.size_toArray, bc_len]
  have o : Hid (Z.toArray.all (·.oneCell') = true) := by rw [hZ]; exact bc_one _ _
  have R1 : Hid ((((w.alloc (.cells X.toArray 22)).alloc (.cells Y.toArray 22)).alloc (.cells Z.toArray 22)).heap[w.heap.size + 1 + 1]? = some (.cells Z.toArray 22 (0, 0))) := by
    have s' : ∀ (w : World) (o : Obj), (w.alloc o).heap.size = w.heap.size + 1 := fun w o => by simp
    rw [← s' w (.cells X.toArray 22), ← s' _ (.cells Y.toArray 22)]; exact heap_alloc_new _ _
  clear hZ
  go_enter Tryd.func14, Tryd.ntmps14
  go_wp2_with (refine wpList_store_row rfl 22 _ _ rfl (w.heap.size + 1 + 1) Z.toArray rfl rfl 22 Z.toArray R1.out (by rw [hZl]; rfl) rfl o.out ?_)
  refine bodyPost_ret (v := .agg Z.toArray) (results_cell_row rfl _ _ (w.heap.size + 1 + 1) 22 Z.toArray (0, 0) _ rfl (setRow_heap _ _ _ _ _ _ R1.out) Tryd.underlying22 rfl (by rw [hZl]; rfl)) rfl ⟨rfl, ?_⟩
  exact below_setRow (below_alloc (below_alloc (below_alloc (Below.refl _ _) _) _) _) (by omega) _
set_option maxRecDepth 100000 in
theorem unround_nil (X Y : List Value) (w : World) : Calls Tryd.prog 19 #[.pointer none, .agg X.toArray, .agg Y.toArray] w fun e w' => e = .returned (.agg (bc 16 fun _ => 0).toArray) ∧ Below w.heap.size w w' := by
  obtain ⟨Z, hZ⟩ : ∃ Z, Z = bc 16 (fun _ => 0) := ⟨_, rfl⟩
  have hz := zero16
  rw [← hZ] at hz ⊢
  have hZl : Z.toArray.size = 16 := by rw [hZ, List.size_toArray, bc_len]
  have o : Hid (Z.toArray.all (·.oneCell') = true) := by rw [hZ]; exact bc_one _ _
  have R1 : Hid ((((w.alloc (.cells X.toArray 22)).alloc (.cells Y.toArray 22)).alloc (.cells Z.toArray 22)).heap[w.heap.size + 1 + 1]? = some (.cells Z.toArray 22 (0, 0))) := by
    have s' : ∀ (w : World) (o : Obj), (w.alloc o).heap.size = w.heap.size + 1 := fun w o => by simp
    rw [← s' w (.cells X.toArray 22), ← s' _ (.cells Y.toArray 22)]; exact heap_alloc_new _ _
  clear hZ
  go_enter Tryd.func19, Tryd.ntmps19
  go_wp2_with (refine wpList_store_row rfl 22 _ _ rfl (w.heap.size + 1 + 1) Z.toArray rfl rfl 22 Z.toArray R1.out (by rw [hZl]; rfl) rfl o.out ?_)
  refine bodyPost_ret (v := .agg Z.toArray) (results_cell_row rfl _ _ (w.heap.size + 1 + 1) 22 Z.toArray (0, 0) _ rfl (setRow_heap _ _ _ _ _ _ R1.out) Tryd.underlying22 rfl (by rw [hZl]; rfl)) rfl ⟨rfl, ?_⟩
  exact below_setRow (below_alloc (below_alloc (below_alloc (Below.refl _ _) _) _) _) (by omega) _
set_option maxRecDepth 100000 in
theorem unlast_nil (X Y : List Value) (w : World) : Calls Tryd.prog 20 #[.pointer none, .agg X.toArray, .agg Y.toArray] w fun e w' => e = .returned (.agg (bc 16 fun _ => 0).toArray) ∧ Below w.heap.size w w' := by
  obtain ⟨Z, hZ⟩ : ∃ Z, Z = bc 16 (fun _ => 0) := ⟨_, rfl⟩
  have hz := zero16
  rw [← hZ] at hz ⊢
  have hZl : Z.toArray.size = 16 := by rw [hZ, List.size_toArray, bc_len]
  have o : Hid (Z.toArray.all (·.oneCell') = true) := by rw [hZ]; exact bc_one _ _
  have R1 : Hid ((((w.alloc (.cells X.toArray 22)).alloc (.cells Y.toArray 22)).alloc (.cells Z.toArray 22)).heap[w.heap.size + 1 + 1]? = some (.cells Z.toArray 22 (0, 0))) := by
    have s' : ∀ (w : World) (o : Obj), (w.alloc o).heap.size = w.heap.size + 1 := fun w o => by simp
    rw [← s' w (.cells X.toArray 22), ← s' _ (.cells Y.toArray 22)]; exact heap_alloc_new _ _
  clear hZ
  go_enter Tryd.func20, Tryd.ntmps20
  go_wp2_with (refine wpList_store_row rfl 22 _ _ rfl (w.heap.size + 1 + 1) Z.toArray rfl rfl 22 Z.toArray R1.out (by rw [hZl]; rfl) rfl o.out ?_)
  refine bodyPost_ret (v := .agg Z.toArray) (results_cell_row rfl _ _ (w.heap.size + 1 + 1) 22 Z.toArray (0, 0) _ rfl (setRow_heap _ _ _ _ _ _ R1.out) Tryd.underlying22 rfl (by rw [hZl]; rfl)) rfl ⟨rfl, ?_⟩
  exact below_setRow (below_alloc (below_alloc (below_alloc (Below.refl _ _) _) _) _) (by omega) _
set_option maxRecDepth 100000 in
theorem rounds_nil (X : List Value) (v : Value) (w : World) : Calls Tryd.prog 23 #[.pointer none, .agg X.toArray, v] w fun e w' => e = .returned (.agg (bc 16 fun _ => 0).toArray) ∧ Below w.heap.size w w' := by
  obtain ⟨Z, hZ⟩ : ∃ Z, Z = bc 16 (fun _ => 0) := ⟨_, rfl⟩
  have hz := zero16
  rw [← hZ] at hz ⊢
  have hZl : Z.toArray.size = 16 := by rw [hZ, List.size_toArray, bc_len]
  have o : Hid (Z.toArray.all (·.oneCell') = true) := by rw [hZ]; exact bc_one _ _
  have R1 : Hid (((w.alloc (.cells X.toArray 22)).alloc (.cells Z.toArray 22)).heap[w.heap.size + 1]? = some (.cells Z.toArray 22 (0, 0))) := heap_alloc2_new _ _ _
  clear hZ
  go_enter Tryd.func23, Tryd.ntmps23
  go_wp2_with (refine wpList_store_row rfl 22 _ _ rfl (w.heap.size + 1) Z.toArray rfl rfl 22 Z.toArray R1.out (by rw [hZl]; rfl) rfl o.out ?_)
  refine bodyPost_ret (v := .agg Z.toArray) (results_cell_row rfl _ _ (w.heap.size + 1) 22 Z.toArray (0, 0) _ rfl (setRow_heap _ _ _ _ _ _ R1.out) Tryd.underlying22 rfl (by rw [hZl]; rfl)) rfl ⟨rfl, ?_⟩
  exact below_setRow (below_alloc (below_alloc (Below.refl _ _) _) _) (by omega) _
theorem box_nil (a : Int) (w : World) : Calls Tryd.prog 15 #[.pointer none, .int .u8 a] w fun e w' => e = .returned (.int .u8 0) ∧ w' = w := by
  go_enter Tryd.func15, Tryd.ntmps15
  go_wp2
  go_ret
  exact ⟨rfl, rfl⟩
end Go.Proofs.YtejhnpgolpjleaaDoor
