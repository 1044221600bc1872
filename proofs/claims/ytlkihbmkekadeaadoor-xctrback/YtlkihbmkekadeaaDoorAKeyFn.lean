/- Own: Rounds and At of layer 4, and what Expand refuses (no statement is proved here). -/
import Derived.Test.YtlkihbmkekadeaaDoorAExpand
namespace Go.Proofs.YtlkihbmkekadeaaDoor
open Go.ChangeShapes Go.WideShapes Go.ChangeAt Go.RowKit
set_option maxRecDepth 20000

/-- A Key lies in a block. -/
def IsKey (w : World) (k g r : Nat) (F : Nat → Nat) : Prop := k < w.heap.size ∧ ∀ (j : Nat) (v : Value), (keyL g r F)[j]? = some v → w.cell? ⟨k, j, none⟩ = some v
theorem IsKey.later {w w' : World} {k g r : Nat} {F : Nat → Nat} (h : IsKey w k g r F) (hb : Below w.heap.size w w') : IsKey w' k g r F :=
  ⟨Nat.lt_of_lt_of_le h.1 hb.size, fun j v hj => (hb.cell h.1).trans (h.2 j v hj)⟩
theorem IsKey.lt {w : World} {k g r : Nat} {F : Nat → Nat} (h : IsKey w k g r F) : k < w.heap.size := h.1
theorem IsKey.tab {w : World} {k g r : Nat} {F : Nat → Nat} (h : IsKey w k g r F) : w.cell? ⟨k, 0, none⟩ = some (.pointer (some ⟨g, 0, none⟩)) := h.2 0 _ rfl
theorem IsKey.rounds {w : World} {k g r : Nat} {F : Nat → Nat} (h : IsKey w k g r F) : w.cell? ⟨k, 1, none⟩ = some (.int .i64 (r : Nat)) := h.2 1 _ rfl
theorem IsKey.at {w : World} {k g r : Nat} {F : Nat → Nat} (h : IsKey w k g r F) (i : Nat) (hi : i < 15) : w.rangeAt k (2 + i * 16) (bc 16 fun j => F (16 * i + j)) := fun j v hj => by
  have hj16 : j < 16 := by have := (List.getElem?_eq_some_iff.1 hj).1; rwa [bc_len] at this
  rw [bc_get 16 _ j hj16] at hj
  have e : (keyL g r F)[2 + i * 16 + j]? = (bc 240 F)[16 * i + j]? := by
    unfold keyL
    rw [show 2 + i * 16 + j = (16 * i + j) + 1 + 1 by omega, List.getElem?_cons_succ, List.getElem?_cons_succ]
  refine h.2 _ _ ?_
  rw [e, bc_get 240 F _ (by omega)]
  exact hj

theorem key_rounds (k g r : Nat) (F : Nat → Nat) (w : World) (h : IsKey w k g r F) : Calls Tryd.prog 17 #[.pointer (some ⟨k, 0, none⟩)] w fun e w' => e = .returned (.int .i64 (r : Nat)) ∧ w' = w := by
  have h1 := h.rounds
  clear h
  go_enter Tryd.func17, Tryd.ntmps17
  go_wp2
  go_ret
  exact ⟨rfl, rfl⟩
set_option maxRecDepth 100000 in
theorem key_at (k g r i : Nat) (F : Nat → Nat) (w : World) (h : IsKey w k g r F) (hr : r < 15) (hi : i ≤ r) : Calls Tryd.prog 18 #[.pointer (some ⟨k, 0, none⟩), .int .i64 (i : Nat)] w fun e w' => e = .returned (.agg (bc 16 fun j => F (16 * i + j)).toArray) ∧ Below w.heap.size w w' := by
  obtain ⟨Z, hZ⟩ : ∃ Z, Z = bc 16 (fun _ => 0) := ⟨_, rfl⟩
  have hz := zero16
  rw [← hZ] at hz
  have sZ : Z.toArray.size = 16 := by rw [hZ, List.size_toArray, bc_len]
  have B0 := hide (below_alloc (Below.refl w.heap.size w) (.cells Z.toArray 31))
  have N0 : Hid ((w.alloc (.cells Z.toArray 31)).heap[w.heap.size]? = some (.cells Z.toArray 31 (0, 0))) := heap_alloc_new _ _
  have h' := h.later B0.out
  have h1 := h'.rounds
  have h2 := hide (h'.at i (by omega))
  obtain ⟨A, hA⟩ : ∃ A, A = bc 16 (fun j => F (16 * i + j)) := ⟨_, rfl⟩
  rw [← hA] at h2 ⊢
  have lA : A.length = 16 := by rw [hA, bc_len]
  have sA : A.toArray.size = 16 := by rw [List.size_toArray, lA]
  have iA : (Tryd.prog.info? 31).map (·.size) = some A.length := by rw [lA]; rfl
  have oA : Hid (A.toArray.all (·.oneCell') = true) := by rw [hA]; exact bc_one _ _
  have i1 : ¬ (r : Int) < (i : Int) := by omega
  have i2 : (i : Int) < 15 := by omega
  have i3 : decide ((r : Int) < (i : Int)) = false := decide_eq_false (by omega)
  have i4 : decide ((i : Int) < 0) = false := decide_eq_false (by omega)
  clear hZ hA h h'
  go_enter Tryd.func18, Tryd.ntmps18
  go_wp2_with (first
    | (refine wpList_load_mid rfl 31 _ rfl k (2 + i * 16) rfl A _ h2.out Tryd.underlying31 rfl iA ?_)
    | (refine wpList_store_row rfl 31 _ _ rfl w.heap.size A.toArray rfl rfl 31 Z.toArray N0.out (by rw [sA]; rfl) (by rw [sZ, sA]) oA.out ?_))
  refine bodyPost_ret (v := .agg A.toArray) (results_cell_row rfl _ _ w.heap.size 31 A.toArray (0, 0) _ rfl (setRow_heap _ _ _ _ _ _ N0.out) Tryd.underlying31 rfl (by rw [sA]; rfl)) rfl ⟨rfl, ?_⟩
  exact below_setRow B0.out (Nat.le_refl _) _
theorem expand_nil (v : Value) (w : World) : Calls Tryd.prog 14 #[.pointer none, v] w fun e w' => e = .returned (.tuple #[.pointer none, .int .i64 1]) ∧ w' = w := by
  go_enter Tryd.func14, Tryd.ntmps14
  go_wp2
  exact bodyPost_ret (v := .tuple #[.pointer none, .int .i64 1]) (by simp [results, Tryd.results14, go_sem]) rfl ⟨rfl, rfl⟩
theorem expand_wrong (g : Nat) (a : Option Addr) (len cap : Nat) (w : World) (h : nrnd len = 0) : Calls Tryd.prog 14 #[.pointer (some ⟨g, 0, none⟩), .slice a len cap] w fun e w' => e = .returned (.tuple #[.pointer none, .int .i64 2]) ∧ w' = w := by
  have cR := roundsOf_any len w
  rw [h] at cR
  go_enter Tryd.func14, Tryd.ntmps14
  go_wp2_with fail
  refine cR.mono ?_
  rintro e w' ⟨rfl, hw⟩
  rw [hw]
  clear hw
  go_wp2_with fail
  exact bodyPost_ret (v := .tuple #[.pointer none, .int .i64 2]) (by simp [results, Tryd.results14, go_sem]) rfl ⟨rfl, rfl⟩
end Go.Proofs.YtlkihbmkekadeaaDoor
