/- Own: the contracts of Block and of the reference's Block of layer 1 (no statement is proved here). -/
import Derived.Test.YtlkihbmkekadeaaDoorOXor
namespace Go.Proofs.YtlkihbmkekadeaaDoor
open Go.ChangeShapes Go.WideShapes Go.ChangeAt Go.RowKit
set_option maxRecDepth 20000

/-- The noughts of a new block of sixteen. -/
def nought16 : List UInt8 := List.replicate 16 0
theorem ozero16 (w : World) : (zeroValue 31).run Tryd.prog w = .ok (.agg (bcells nought16).toArray) w := by kernel_rfl
theorem range_get (f : Nat → UInt8) (k : Nat) (hk : k < 16) : ((List.range 16).map f).getD k 0 = f k := by
  rw [List.getD_eq_getElem?_getD, List.getElem?_map, List.getElem?_range hk]; rfl
theorem byteAt_nat (bs : List UInt8) (k : Nat) (hk : k < bs.length) : byteAt bs (k : Int) = (bs.getD k 0).toNat := by
  rw [byteAt_in bs _ (by omega) (by omega), Int.toNat_natCast]

/-- Sixteen bytes, noughts where there are none. -/
def blk (bs : List UInt8) : List UInt8 := (List.range 16).map fun k => bs.getD k 0
theorem length_blk (bs : List UInt8) : (blk bs).length = 16 := by simp [blk]
theorem blk_get (bs : List UInt8) (k : Nat) (hk : k < 16) : (blk bs).getD k 0 = bs.getD k 0 := range_get _ k hk
theorem byteAt_pos (bs : List UInt8) (k : Nat) : byteAt bs (k : Int) = (bs.getD k 0).toNat := by
  by_cases h : k < bs.length
  · exact byteAt_nat bs k h
  · rw [byteAt_out bs _ (by omega)]; simp [List.getElem?_eq_none (show bs.length ≤ k by omega)]
theorem blk_take (bs : List UInt8) : bs.take 16 ++ List.replicate (16 - bs.length) 0 = blk bs := by
  apply List.ext_getElem
  · rw [length_blk]; simp; omega
  · intro i h1 h2
    have h2' : i < 16 := by rw [length_blk] at h2; exact h2
    have e : (blk bs)[i]'h2 = bs.getD i 0 := by simp [blk]
    rw [e]
    by_cases h : i < bs.length
    · rw [List.getElem_append_left (by simp; omega)]; simp [h]
    · rw [List.getElem_append_right (by simp; omega)]; simp [List.getElem?_eq_none (show bs.length ≤ i by omega)]
theorem copy16 (w : World) (c : Nat) (bs : List UInt8) (a : Option Addr) (hr : bs.length = 0 ∨ ∃ b off : Nat, a = some ⟨b, off, none⟩ ∧ ∀ i, i < bs.length → w.cell? ⟨b, off + i, none⟩ = some (.int .u8 ((bs.getD i 0).toNat : Int))) :
    (Builtin.copy_ #[22, 22] 3 #[.slice (some ⟨w.heap.size, 0, none⟩) 16 16, .slice a bs.length c]).run Tryd.prog (w.alloc (.cells (bcells nought16).toArray 31)) = .ok (goInt (min bs.length 16 : Nat)) (w.alloc (.cells (bcells (blk bs)).toArray 31)) := by
  rcases hr with h0 | ⟨b, off, rfl, hc⟩
  · obtain rfl : bs = [] := List.eq_nil_of_length_eq_zero h0
    have e : bcells nought16 = bcells (blk []) := by rfl
    rw [← e]
    rcases a with _ | a
    · obtain ⟨i, hq, hi⟩ : ∃ i, Tryd.prog.info? 5 = some i ∧ i.size = 1 := ⟨_, rfl, rfl⟩
      simp [Builtin.copy_, run_underlying Tryd.underlying22, Builtin.lenOf, Builtin.firstCells, sizeOf, typeInfo, hq, storeCells]
    · have h := run_copy_row (P := Tryd.prog) (w.alloc (.cells (bcells nought16).toArray 31)) 22 22 3 5 w.heap.size 0 16 16 a 0 c (bcells nought16).toArray 31 [] Tryd.underlying22 rfl (heap_alloc_new _ _) (by simp) (fun j v hj => by simp at hj) (by simp) (fun v hv => by cases hv)
      rw [World.setRow_alloc_new] at h
      simpa using h
  · have hl : (bcells (bs.take 16)).length = min bs.length 16 := by rw [length_bcells, List.length_take, Nat.min_comm]
    have h := run_copy_row (P := Tryd.prog) (w.alloc (.cells (bcells nought16).toArray 31)) 22 22 3 5 w.heap.size 0 16 16 ⟨b, off, none⟩ bs.length c (bcells nought16).toArray 31 (bcells (bs.take 16)) Tryd.underlying22 rfl (heap_alloc_new _ _) hl
      (fun j v hj => by
        have hlt : j < (bs.take 16).length := by rw [← length_bcells]; exact (List.getElem?_eq_some_iff.1 hj).1
        have hlt2 : j < bs.length := by rw [List.length_take] at hlt; omega
        rw [bcells_get _ j hlt] at hj
        have := hc j hlt2
        refine Go.Proofs.YtlkihbmkekadeaaDoor.later ((Below.refl _ _).alloc (Nat.le_refl _) _) ?_
        rw [addr_add, ← hj, this]
        have e : (bs.take 16).getD j 0 = bs.getD j 0 := by
          rw [List.getD_eq_getElem?_getD, List.getElem?_take_of_lt (by rw [List.length_take] at hlt; omega), ← List.getD_eq_getElem?_getD]
        rw [e]) (by rw [hl, List.size_toArray, length_bcells]; simp [nought16]; omega) (bcells_one _)
    rw [h, World.setRow_alloc_new, hl]
    congr 4
    have d : (bcells nought16).drop (min bs.length 16) = bcells (List.replicate (16 - bs.length) 0) := by
      have e : 16 - min bs.length 16 = 16 - bs.length := by omega
      simp only [bcells, nought16, List.map_replicate, List.drop_replicate, e]
    rw [← blk_take]
    simp only [List.take_zero, List.nil_append, Nat.zero_add, d]
    simp [bcells]
set_option maxHeartbeats 1600000 in
theorem block_any (v : Value) (bs : List UInt8) (w : World) (hv : IsB w v bs) :
    Calls Tryd.prog 56 #[v] w fun e w' => e = .returned (.agg (bcells (blk bs)).toArray) ∧ Below w.heap.size w w' := by
  obtain ⟨_, a, c, rfl, hr⟩ := hv
  obtain ⟨Z0, hZ⟩ : ∃ Z0, Z0 = (bcells nought16).toArray := ⟨_, rfl⟩
  obtain ⟨V, hV⟩ : ∃ V, V = (bcells (blk bs)).toArray := ⟨_, rfl⟩
  have hz : ∀ w, (zeroValue 31).run Tryd.prog w = .ok (.agg Z0) w := by rw [hZ]; exact ozero16
  have hcp := copy16 (w.alloc (.cells Z0 31)) c bs a (by
    rcases hr with h | ⟨b, off, h1, h2⟩
    · exact .inl h
    · exact .inr ⟨b, off, h1, fun i hi => later (below_alloc (Below.refl _ _) _) (h2 i hi)⟩)
  have hlen : V.size = 16 := by rw [hV, List.size_toArray, length_bcells, length_blk]
  have hZl : Z0.size = 16 := by rw [hZ, List.size_toArray, length_bcells]; rfl
  have HO : Hid (V.all (·.oneCell') = true) := by
    rw [hV]; show _ = _; rw [Array.all_eq_true]; intro i hi; exact bcells_one (blk bs) _ (by simp)
  rw [← hZ, ← hV] at hcp
  simp only [World.size_alloc] at hcp
  have HV := hide hV
  rw [← hV]
  clear hr hZ hV
  go_enter Tryd.func56, Tryd.ntmps56
  go_wp2_with (first
    | (refine wpList_load_row rfl 31 _ rfl (w.heap.size + 1) rfl 31 V (0, 0) _ (heap_alloc2_new _ _ _) Tryd.underlying31 rfl (by rw [hlen]; rfl) ?_)
    | (refine wpList_store_row rfl 31 _ _ rfl w.heap.size V rfl rfl 31 Z0 (heap_alloc2_old _ _ _) (by rw [hlen]; rfl) (by rw [hZl, hlen]) HO.out ?_))
  refine bodyPost_ret (v := .agg V) (results_cell_row rfl _ _ w.heap.size 31 V (0, 0) _ rfl (setRow_heap _ _ _ _ _ _ (heap_alloc2_old _ _ _)) Tryd.underlying31 rfl (by rw [hlen]; rfl)) rfl ⟨rfl, ?_⟩
  exact below_setRow (below_alloc (below_alloc (Below.refl _ _) _) _) (Nat.le_refl _) _
end Go.Proofs.YtlkihbmkekadeaaDoor
