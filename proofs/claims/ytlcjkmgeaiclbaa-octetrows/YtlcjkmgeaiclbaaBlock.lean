/- Own: the contracts of Block and of the reference's Block of layer 1 (no statement is proved here). -/
import Derived.Test.YtlcjkmgeaiclbaaRefSum
namespace Go.Proofs.Ytlcjkmgeaiclbaa
open Go.ChangeShapes Go.WideShapes Go.ChangeAt Go.RowKit

/-- Sixteen bytes, noughts where there are none. -/
def blk (bs : List UInt8) : List UInt8 := (List.range 16).map fun k => bs.getD k 0
theorem length_blk (bs : List UInt8) : (blk bs).length = 16 := by simp [blk]
theorem blk_get (bs : List UInt8) (k : Nat) (hk : k < 16) : (blk bs).getD k 0 = bs.getD k 0 := range_get _ k hk
theorem byteAt_pos (bs : List UInt8) (k : Nat) : byteAt bs (k : Int) = (bs.getD k 0).toNat := by
  by_cases h : k < bs.length
  · exact byteAt_nat bs k h
  · rw [byteAt_out bs _ (by omega)]; simp [List.getElem?_eq_none (show bs.length ≤ k by omega)]
theorem blk_take (bs : List UInt8) : bs.take 16 ++ List.replicate (16 - bs.length) 0 = blk bs := by
  apply List.ext_getElem
  · rw [length_blk]; simp; omega
  · intro i h1 h2
    have h2' : i < 16 := by rw [length_blk] at h2; exact h2
    have e : (blk bs)[i]'h2 = bs.getD i 0 := by simp [blk]
    rw [e]
    by_cases h : i < bs.length
    · rw [List.getElem_append_left (by simp; omega)]; simp [h]
    · rw [List.getElem_append_right (by simp; omega)]; simp [List.getElem?_eq_none (show bs.length ≤ i by omega)]
theorem copy16 (w : World) (c : Nat) (bs : List UInt8) (a : Option Addr) (hr : bs.length = 0 ∨ ∃ b off : Nat, a = some ⟨b, off, none⟩ ∧ ∀ i, i < bs.length → w.cell? ⟨b, off + i, none⟩ = some (.int .u8 ((bs.getD i 0).toNat : Int))) :
    (Builtin.copy_ #[22, 22] 3 #[.slice (some ⟨w.heap.size, 0, none⟩) 16 16, .slice a bs.length c]).run Try.prog (w.alloc (.cells (bcells nought16).toArray 27)) = .ok (goInt (min bs.length 16 : Nat)) (w.alloc (.cells (bcells (blk bs)).toArray 27)) := by
  rcases hr with h0 | ⟨b, off, rfl, hc⟩
  · obtain rfl : bs = [] := List.eq_nil_of_length_eq_zero h0
    have e : bcells nought16 = bcells (blk []) := by rfl
    rw [← e]
    rcases a with _ | a
    · obtain ⟨i, hq, hi⟩ : ∃ i, Try.prog.info? 5 = some i ∧ i.size = 1 := ⟨_, rfl, rfl⟩
      simp [Builtin.copy_, run_underlying Try.underlying22, Builtin.lenOf, Builtin.firstCells, sizeOf, typeInfo, hq, storeCells]
    · have h := run_copy_row (P := Try.prog) (w.alloc (.cells (bcells nought16).toArray 27)) 22 22 3 5 w.heap.size 0 16 16 a 0 c (bcells nought16).toArray 27 [] Try.underlying22 rfl (heap_alloc_new _ _) (by simp) (fun j v hj => by simp at hj) (by simp) (fun v hv => by cases hv)
      rw [World.setRow_alloc_new] at h
      simpa using h
  · have hl : (bcells (bs.take 16)).length = min bs.length 16 := by rw [length_bcells, List.length_take, Nat.min_comm]
    have h := run_copy_row (P := Try.prog) (w.alloc (.cells (bcells nought16).toArray 27)) 22 22 3 5 w.heap.size 0 16 16 ⟨b, off, none⟩ bs.length c (bcells nought16).toArray 27 (bcells (bs.take 16)) Try.underlying22 rfl (heap_alloc_new _ _) hl
      (fun j v hj => by
        have hlt : j < (bs.take 16).length := by rw [← length_bcells]; exact (List.getElem?_eq_some_iff.1 hj).1
        have hlt2 : j < bs.length := by rw [List.length_take] at hlt; omega
        rw [bcells_get _ j hlt] at hj
        have := hc j hlt2
        refine Go.Proofs.Ytlcjkmgeaiclbaa.later ((Below.refl _ _).alloc (Nat.le_refl _) _) ?_
        rw [addr_add, ← hj, this]
        have e : (bs.take 16).getD j 0 = bs.getD j 0 := by
          rw [List.getD_eq_getElem?_getD, List.getElem?_take_of_lt (by rw [List.length_take] at hlt; omega), ← List.getD_eq_getElem?_getD]
        rw [e]) (by rw [hl, List.size_toArray, length_bcells]; simp [nought16]; omega) (bcells_one _)
    rw [h, World.setRow_alloc_new, hl]
    congr 4
    have d : (bcells nought16).drop (min bs.length 16) = bcells (List.replicate (16 - bs.length) 0) := by
      have e : 16 - min bs.length 16 = 16 - bs.length := by omega
      simp only [bcells, nought16, List.map_replicate, List.drop_replicate, e]
    rw [← blk_take]
    simp only [List.take_zero, List.nil_append, Nat.zero_add, d]
    simp [bcells]
set_option maxHeartbeats 1600000 in
theorem block_any (v : Value) (bs : List UInt8) (w : World) (hv : IsB w v bs) :
    Calls Try.prog 18 #[v] w fun e w' => e = .returned (.agg (bcells (blk bs)).toArray) ∧ Below w.heap.size w w' := by
  obtain ⟨_, a, c, rfl, hr⟩ := hv
  obtain ⟨Z0, hZ⟩ : ∃ Z0, Z0 = (bcells nought16).toArray := ⟨_, rfl⟩
  obtain ⟨V, hV⟩ : ∃ V, V = (bcells (blk bs)).toArray := ⟨_, rfl⟩
  have hz : ∀ w, (zeroValue 27).run Try.prog w = .ok (.agg Z0) w := by rw [hZ]; exact zero16
  have hcp := copy16 (w.alloc (.cells Z0 27)) c bs a (by
    rcases hr with h | ⟨b, off, h1, h2⟩
    · exact .inl h
    · exact .inr ⟨b, off, h1, fun i hi => later (below_alloc (Below.refl _ _) _) (h2 i hi)⟩)
  have hlen : V.size = 16 := by rw [hV, List.size_toArray, length_bcells, length_blk]
  have hZl : Z0.size = 16 := by rw [hZ, List.size_toArray, length_bcells]; rfl
  have HO : Hid (V.all (·.oneCell') = true) := by
    rw [hV]; show _ = _; rw [Array.all_eq_true]; intro i hi; exact bcells_one (blk bs) _ (by simp)
  rw [← hZ, ← hV] at hcp
  simp only [World.size_alloc] at hcp
  have HV := hide hV
  rw [← hV]
  clear hr hZ hV
  go_enter Try.func18, Try.ntmps18
  go_wp2_with (first
    | (refine wpList_load_row rfl 27 _ rfl (w.heap.size + 1) rfl 27 V (0, 0) _ (heap_alloc2_new _ _ _) Try.underlying27 rfl (by rw [hlen]; rfl) ?_)
    | (refine wpList_store_row rfl 27 _ _ rfl w.heap.size V rfl rfl 27 Z0 (heap_alloc2_old _ _ _) (by rw [hlen]; rfl) (by rw [hZl, hlen]) HO.out ?_))
  refine bodyPost_ret (v := .agg V) (results_cell_row rfl _ _ w.heap.size 27 V (0, 0) _ rfl (setRow_heap _ _ _ _ _ _ (heap_alloc2_old _ _ _)) Try.underlying27 rfl (by rw [hlen]; rfl)) rfl ⟨rfl, ?_⟩
  exact below_setRow (below_alloc (below_alloc (Below.refl _ _) _) _) (Nat.le_refl _) _
set_option maxHeartbeats 1600000 in
theorem rblock_any (v : Value) (bs : List UInt8) (w : World) (hv : IsB w v bs) (hn : bs.length ≤ 1099511627776) :
    Calls Try.prog 13 #[v] w fun e w' => e = .returned (.agg (bcells (blk bs)).toArray) ∧ Below w.heap.size w w' := by
  have cA : Hid (∀ (k : Nat) w', Below w.heap.size w w' → k < 16 → Calls Try.prog 36 #[v, .int .i64 0, .int .i64 k] w' fun e w'' => e = .returned (.int .u8 (((blk bs).getD k 0).toNat : Int)) ∧ w'' = w') := fun k w' hb hk => by
    have := at_any v bs 0 k w' (hv.later hb) hn (by omega) (by omega)
    rw [Int.zero_add, byteAt_pos, ← blk_get bs k hk] at this
    exact this
  have hzl := length_blk bs
  generalize blk bs = zs at cA hzl ⊢
  obtain ⟨Z0, hZ⟩ : ∃ Z0, Z0 = (bcells nought16).toArray := ⟨_, rfl⟩
  have hz : ∀ w, (zeroValue 27).run Try.prog w = .ok (.agg Z0) w := by rw [hZ]; exact zero16
  have HZ : Hid (Z0 = (bcells (part zs 0)).toArray) := by rw [hZ]; exact nought_part zs hzl
  clear hZ hv
  go_enter Try.func13, Try.ntmps13
  go_wp2
  clear hz
  go_loopw [4] (fun i wr => ∃ k : Nat, k ≤ 16 ∧ i = .int .i64 k ∧ Hid (Below w.heap.size w wr ∧ wr.heap[w.heap.size]? = some (.cells Z0 27 (0, 0)) ∧ wr.heap[w.heap.size + 1]? = some (.cells (bcells (part zs k)).toArray 27 (0, 0)))) (fun i _ => 16 - (intOf i).toNat)
  case atStart =>
    refine ⟨0, by omega, rfl, below_alloc (below_alloc (Below.refl _ _) _) _, heap_alloc2_old _ _ _, ?_⟩
    rw [← HZ.out]; exact heap_alloc2_new _ _ _
  case round =>
    rename_i wr
    obtain ⟨k, hk, rfl, HR⟩ := hrel
    obtain ⟨hb, r1, r2⟩ := HR.out
    by_cases hlt : k < 16
    · have e3 : wr.cell? ⟨w.heap.size + 1, k, none⟩ = some (.int .u8 (((part zs k).getD k 0).toNat : Int)) := by
        rw [cell_of_row wr _ _ _ _ _ r2]; simpa using bcells_get (part zs k) k (by rw [length_part _ _ (by omega)]; omega)
      have e4 : wr.frozen? ⟨w.heap.size + 1, k, none⟩ = false := frozen_of_row wr _ _ _ _ r2
      obtain ⟨z, hz1⟩ : ∃ z, z = (part zs k).getD k 0 := ⟨_, rfl⟩
      rw [← hz1] at e3
      have hk' : (k : Int) < 16 := by omega
      have K1 := hide (cA.out k wr hb hlt)
      have HP := hide (part_set zs k (by omega))
      obtain ⟨y, hy⟩ : ∃ y, y = zs.getD k 0 := ⟨_, rfl⟩
      rw [← hy] at K1 HP
      clear hz1 hy hb r1 r2
      go_wp2_with fail
      refine (K1.out).mono ?_
      rintro e w' ⟨rfl, rfl⟩
      go_wp2
      go_roundw
      case rel =>
        obtain ⟨hb, r1, r2⟩ := HR.out
        refine ⟨k + 1, by omega, by go_num, hb.setCell (by show w.heap.size ≤ w.heap.size + 1; omega) _, ?_, ?_⟩
        · rw [heap_setCell_other _ _ _ _ (by simp)]; exact r1
        · rw [heap_setCell_same _ _ _ _ _ _ r2, List.setIfInBounds_toArray, HP.out]
      case measure => simp [intOf]; omega
    · obtain rfl : k = 16 := by omega
      have hpa : part zs 16 = zs := by rw [← hzl]; exact part_all zs
      rw [hpa] at r2
      have hlen : (bcells zs).toArray.size = 16 := by rw [List.size_toArray, length_bcells, hzl]
      have hZl : Z0.size = 16 := by rw [HZ.out, List.size_toArray, length_bcells, length_part _ _ (by omega), hzl]
      have R1 := hide r1
      have R2 := hide r2
      have hone : (bcells zs).toArray.all (·.oneCell') = true := by
        rw [Array.all_eq_true]; intro i hi; exact bcells_one zs _ (by simp)
      have HO := hide hone
      clear r1 r2 hone
      obtain ⟨V, hV⟩ : ∃ V, V = (bcells zs).toArray := ⟨_, rfl⟩
      rw [← hV] at hlen R2 HO
      have HV := hide hV
      clear hV
      go_wp2_with (first
        | (refine wpList_load_row rfl 27 _ rfl (w.heap.size + 1) rfl 27 V (0, 0) _ R2.out Try.underlying27 rfl (by rw [hlen]; rfl) ?_)
        | (refine wpList_store_row rfl 27 _ _ rfl w.heap.size V rfl rfl 27 Z0 R1.out (by rw [hlen]; rfl) (by rw [hZl, hlen]) HO.out ?_))
      refine bodyPost_ret (v := .agg V) (results_cell_row rfl _ _ w.heap.size 27 V (0, 0) _ rfl (setRow_heap _ _ _ _ _ _ R1.out) Try.underlying27 rfl (by rw [hlen]; rfl)) rfl ⟨by rw [HV.out], ?_⟩
      exact below_setRow hb (Nat.le_refl _) _
end Go.Proofs.Ytlcjkmgeaiclbaa
