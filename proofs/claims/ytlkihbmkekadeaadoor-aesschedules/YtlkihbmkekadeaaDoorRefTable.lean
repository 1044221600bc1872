/- Own: the contracts of the reference's Table and Back (no statement is proved here). -/
import Derived.Test.YtlkihbmkekadeaaDoorRefBox
import Derived.Laws.CopyOwn
namespace Go.Proofs.YtlkihbmkekadeaaDoor
open Go.ChangeShapes Go.WideShapes Go.ChangeAt Go.RowKit
set_option maxRecDepth 20000


set_option maxRecDepth 100000 in
set_option maxHeartbeats 1600000 in
theorem ref_table_core (F : Nat → List Value) (B : Nat → Nat) (w : World) (hl : ∀ k, (F k).length = 256) (h1 : Hid ((F 256).toArray.all (·.oneCell') = true)) (hset : Hid (∀ k, k < 256 → (F k).set k (.int .u8 (B k : Nat)) = F (k + 1)))
    (hz : ∀ w, (zeroValue 36).run Tryd.prog w = .ok (.agg (F 0).toArray) w)
    (cB : Hid (∀ (k : Nat) w, k < 256 → Calls Tryd.prog 66 #[.int .u8 (k : Nat)] w fun e w' => e = .returned (.int .u8 (B k : Nat)) ∧ w' = w)) :
    Calls Tryd.prog 42 #[] w fun e w' => e = .returned (.agg (F 256).toArray) ∧ Below w.heap.size w w' := by
  obtain ⟨Z0, hZ⟩ : ∃ Z0, Z0 = (F 0).toArray := ⟨_, rfl⟩
  have hZl : Z0.size = 256 := by rw [hZ, List.size_toArray, hl]
  rw [← hZ] at hz
  have HZ := hide hZ
  have HL := hide hl
  clear hZ hl
  go_enter Tryd.func42, Tryd.ntmps42
  go_wp2
  clear hz
  go_loopw [2] (fun i wr => ∃ k : Nat, k ≤ 256 ∧ i = .int .i64 k ∧ Hid (Below w.heap.size w wr ∧ wr.heap[w.heap.size]? = some (.cells Z0 36 (0, 0)) ∧ wr.heap[w.heap.size + 1]? = some (.cells (F k).toArray 36 (0, 0)))) (fun i _ => 256 - (intOf i).toNat)
  case atStart =>
    refine ⟨0, by omega, rfl, below_alloc (below_alloc (Below.refl _ _) _) _, heap_alloc2_old _ _ _, ?_⟩
    rw [← HZ.out]; exact heap_alloc2_new _ _ _
  case round =>
    rename_i wr
    obtain ⟨k, hk, rfl, HR⟩ := hrel
    obtain ⟨hb, r1, r2⟩ := HR.out
    by_cases hlt : k < 256
    · obtain ⟨o, ho⟩ : ∃ o, (F k)[k]? = some o := ⟨_, List.getElem?_eq_getElem (by rw [HL.out]; exact hlt)⟩
      have e3 : wr.cell? ⟨w.heap.size + 1, k, none⟩ = some o := by
        rw [cell_of_row wr _ _ _ _ _ r2]; simpa using ho
      have e4 : wr.frozen? ⟨w.heap.size + 1, k, none⟩ = false := frozen_of_row wr _ _ _ _ r2
      have hk' : (k : Int) < 256 := by omega
      have K1 := hide (cB.out k wr hlt)
      have HP := hide (hset.out k hlt)
      obtain ⟨y, hy⟩ : ∃ y, y = B k := ⟨_, rfl⟩
      rw [← hy] at K1 HP
      clear hy hb r1 r2 ho
      go_wp2_with fail
      refine (K1.out).mono ?_
      rintro e w' ⟨rfl, rfl⟩
      go_wp2
      go_roundw
      case rel =>
        obtain ⟨hb, r1, r2⟩ := HR.out
        refine ⟨k + 1, by omega, by go_num, hb.setCell (by show w.heap.size ≤ w.heap.size + 1; omega) _, ?_, ?_⟩
        · rw [heap_setCell_other _ _ _ _ (by simp)]; exact r1
        · rw [heap_setCell_same _ _ _ _ _ _ r2, List.setIfInBounds_toArray, HP.out]
      case measure => simp [intOf]; omega
    · obtain rfl : k = 256 := by omega
      have R1 := hide r1
      have R2 := hide r2
      have HB := hide hb
      have hlen : (F 256).toArray.size = 256 := by rw [List.size_toArray, HL.out]
      clear r1 r2 hb
      obtain ⟨V, hV⟩ : ∃ V, V = (F 256).toArray := ⟨_, rfl⟩
      rw [← hV] at hlen R2 h1
      have HV := hide hV
      clear hV hlt
      go_wp2_with (first
        | (refine wpList_load_row rfl 36 _ rfl (w.heap.size + 1) rfl 36 V (0, 0) _ R2.out Tryd.underlying36 rfl (by rw [hlen]; rfl) ?_)
        | (refine wpList_store_row rfl 36 _ _ rfl w.heap.size V rfl rfl 36 Z0 R1.out (by rw [hlen]; rfl) (by rw [hZl, hlen]) h1.out ?_))
      refine bodyPost_ret (v := .agg V) (results_cell_row rfl _ _ w.heap.size 36 V (0, 0) _ rfl (setRow_heap _ _ _ _ _ _ R1.out) Tryd.underlying36 rfl (by rw [hlen]; rfl)) rfl ⟨by rw [HV.out], ?_⟩
      exact below_setRow HB.out (Nat.le_refl _) _
def tb (k : Nat) : List Nat := (List.range 256).map fun j => if j < k then sbox j else 0
theorem tb_len (k : Nat) : (tb k).length = 256 := by unfold tb; rw [List.length_map, List.length_range]
theorem tb_set (k : Nat) : (tb k).set k (sbox k) = tb (k + 1) := by
  apply List.ext_getElem
  · rw [List.length_set, tb_len, tb_len]
  · intro i h1 h2
    rw [tb_len] at h2
    rw [List.getElem_set]
    simp only [tb, List.getElem_map, List.getElem_range]
    by_cases e : k = i
    · subst e; rw [if_pos rfl, if_pos (by omega)]
    · rw [if_neg e]
      by_cases h : i < k
      · rw [if_pos h, if_pos (by omega)]
      · rw [if_neg h, if_neg (by omega)]
theorem tb_all (k : Nat) (hk : k < 256) : (tb 256)[k]? = some (sbox k) := by
  unfold tb
  rw [List.getElem?_map, List.getElem?_range hk]
  simp [hk]
theorem tb_zero : tabV (tb 0) = tabV (List.replicate 256 0) := by
  have h : tb 0 = List.replicate 256 0 := by
    apply List.ext_getElem
    · rw [tb_len, List.length_replicate]
    · intro i h1 h2
      rw [List.getElem_replicate]
      simp only [tb, List.getElem_map, Nat.not_lt_zero, if_false]
  rw [h]
theorem zero256 (w : World) : (zeroValue 36).run Tryd.prog w = .ok (.agg (tabV (List.replicate 256 0)).toArray) w := by kernel_rfl
theorem tabV_one (l : List Nat) : (tabV l).toArray.all (·.oneCell') = true := by
  rw [Array.all_eq_true]; intro i hi; simp [tabV]; rfl
theorem ref_table (w : World) : Calls Tryd.prog 42 #[] w fun e w' => e = .returned (.agg (tabV (tb 256)).toArray) ∧ Below w.heap.size w w' :=
  ref_table_core (fun k => tabV (tb k)) sbox w (fun k => by rw [tabV_len, tb_len]) (hide (tabV_one _)) (hide fun k hk => by
    show (tabV (tb k)).set k _ = tabV (tb (k + 1))
    rw [← tb_set k]; unfold tabV; rw [List.map_set]) (fun w => by show _ = Result.ok (Value.agg (tabV (tb 0)).toArray) w; rw [tb_zero]; exact zero256 w) (hide fun k w hk => ref_box k hk w)
end Go.Proofs.YtlkihbmkekadeaaDoor
