/- Own: the contracts of the reference's Table and Back (no statement is proved here). -/
import Derived.Test.YtflpckfdickbhaaRefBox
import Derived.Laws.CopyOwn
namespace Go.Proofs.Ytflpckfdickbhaa
open Go.ChangeShapes Go.WideShapes Go.ChangeAt Go.RowKit

theorem below_alloc {w w' : World} (h : Below w.heap.size w w') (o : Obj) : Below w.heap.size w (w'.alloc o) := h.alloc h.size o

set_option maxRecDepth 100000 in
set_option maxHeartbeats 1600000 in
theorem ref_table_core (F : Nat → List Value) (B : Nat → Nat) (w : World) (hl : ∀ k, (F k).length = 256) (h1 : Hid ((F 256).toArray.all (·.oneCell') = true)) (hset : Hid (∀ k, k < 256 → (F k).set k (.int .u8 (B k : Nat)) = F (k + 1)))
    (hz : ∀ w, (zeroValue 31).run Try.prog w = .ok (.agg (F 0).toArray) w)
    (cB : Hid (∀ (k : Nat) w, k < 256 → Calls Try.prog 21 #[.int .u8 (k : Nat)] w fun e w' => e = .returned (.int .u8 (B k : Nat)) ∧ w' = w)) :
    Calls Try.prog 24 #[] w fun e w' => e = .returned (.agg (F 256).toArray) ∧ Below w.heap.size w w' := by
  obtain ⟨Z0, hZ⟩ : ∃ Z0, Z0 = (F 0).toArray := ⟨_, rfl⟩
  have hZl : Z0.size = 256 := by rw [hZ, List.size_toArray, hl]
  rw [← hZ] at hz
  have HZ := hide hZ
  have HL := hide hl
  clear hZ hl
  go_enter Try.func24, Try.ntmps24
  go_wp2
  clear hz
  go_loopw [2] (fun i wr => ∃ k : Nat, k ≤ 256 ∧ i = .int .i64 k ∧ Hid (Below w.heap.size w wr ∧ wr.heap[w.heap.size]? = some (.cells Z0 31 (0, 0)) ∧ wr.heap[w.heap.size + 1]? = some (.cells (F k).toArray 31 (0, 0)))) (fun i _ => 256 - (intOf i).toNat)
  case atStart =>
    refine ⟨0, by omega, rfl, below_alloc (below_alloc (Below.refl _ _) _) _, heap_alloc2_old _ _ _, ?_⟩
    rw [← HZ.out]; exact heap_alloc2_new _ _ _
  case round =>
    rename_i wr
    obtain ⟨k, hk, rfl, HR⟩ := hrel
    obtain ⟨hb, r1, r2⟩ := HR.out
    by_cases hlt : k < 256
    · obtain ⟨o, ho⟩ : ∃ o, (F k)[k]? = some o := ⟨_, List.getElem?_eq_getElem (by rw [HL.out]; exact hlt)⟩
      have e3 : wr.cell? ⟨w.heap.size + 1, k, none⟩ = some o := by
        rw [cell_of_row wr _ _ _ _ _ r2]; simpa using ho
      have e4 : wr.frozen? ⟨w.heap.size + 1, k, none⟩ = false := frozen_of_row wr _ _ _ _ r2
      have hk' : (k : Int) < 256 := by omega
      have K1 := hide (cB.out k wr hlt)
      have HP := hide (hset.out k hlt)
      obtain ⟨y, hy⟩ : ∃ y, y = B k := ⟨_, rfl⟩
      rw [← hy] at K1 HP
      clear hy hb r1 r2 ho
      go_wp2_with fail
      refine (K1.out).mono ?_
      rintro e w' ⟨rfl, rfl⟩
      go_wp2
      go_roundw
      case rel =>
        obtain ⟨hb, r1, r2⟩ := HR.out
        refine ⟨k + 1, by omega, by go_num, hb.setCell (by show w.heap.size ≤ w.heap.size + 1; omega) _, ?_, ?_⟩
        · rw [heap_setCell_other _ _ _ _ (by simp)]; exact r1
        · rw [heap_setCell_same _ _ _ _ _ _ r2, List.setIfInBounds_toArray, HP.out]
      case measure => simp [intOf]; omega
    · obtain rfl : k = 256 := by omega
      have R1 := hide r1
      have R2 := hide r2
      have HB := hide hb
      have hlen : (F 256).toArray.size = 256 := by rw [List.size_toArray, HL.out]
      clear r1 r2 hb
      obtain ⟨V, hV⟩ : ∃ V, V = (F 256).toArray := ⟨_, rfl⟩
      rw [← hV] at hlen R2 h1
      have HV := hide hV
      clear hV hlt
      go_wp2_with (first
        | (refine wpList_load_row rfl 31 _ rfl (w.heap.size + 1) rfl 31 V (0, 0) _ R2.out Try.underlying31 rfl (by rw [hlen]; rfl) ?_)
        | (refine wpList_store_row rfl 31 _ _ rfl w.heap.size V rfl rfl 31 Z0 R1.out (by rw [hlen]; rfl) (by rw [hZl, hlen]) h1.out ?_))
      refine bodyPost_ret (v := .agg V) (results_cell_row rfl _ _ w.heap.size 31 V (0, 0) _ rfl (setRow_heap _ _ _ _ _ _ R1.out) Try.underlying31 rfl (by rw [hlen]; rfl)) rfl ⟨by rw [HV.out], ?_⟩
      exact below_setRow HB.out (Nat.le_refl _) _
set_option maxRecDepth 100000 in
set_option maxHeartbeats 1600000 in
theorem ref_back_core (V : List Value) (B : Nat → Nat) (b r : Nat) (w : World) (hV : Hid (∀ k, k < 256 → V[k]? = some (.int .u8 (B k : Nat)))) (hr : r < 256) (hb : Hid (B r = b)) (hu : Hid (∀ k, k < 256 → B k = b → k = r)) :
    Calls Try.prog 23 #[.agg V.toArray, .int .u8 (b : Nat)] w fun e w' => e = .returned (.int .u8 (r : Nat)) ∧ Below w.heap.size w w' := by
  obtain ⟨W0, hW0⟩ : ∃ W0, W0 = w.alloc (.cells V.toArray 31) := ⟨_, rfl⟩
  have bw : Hid (Below w.heap.size w W0) := by rw [hW0]; exact below_alloc (Below.refl _ _) _
  have cc : Hid (∀ k, k < 256 → W0.cell? ⟨w.heap.size, k, none⟩ = some (.int .u8 (B k : Nat))) := fun k hk => by
    rw [hW0, cell_of_row _ _ _ _ _ _ (heap_alloc_new _ _)]; simpa using hV.out k hk
  have HRR := hide hr
  clear hr
  go_enter Try.func23, Try.ntmps23
  go_wp2
  rw [← hW0]
  clear hW0
  go_loop [5] (fun i => ∃ k : Nat, k ≤ r ∧ i = .int .i64 k) (fun i => 256 - (intOf i).toNat)
  case atStart => exact ⟨0, by omega, rfl⟩
  case round =>
    obtain ⟨k, hk, rfl⟩ := hrel
    have hlt : k < 256 := Nat.lt_of_le_of_lt hk HRR.out
    have hk' : (k : Int) < 256 := by omega
    have hc := cc.out k hlt
    obtain ⟨q, hq⟩ : ∃ q, q = B k := ⟨_, rfl⟩
    rw [← hq] at hc
    have HQ := hide hq
    have HK := hide hk
    clear hq hk
    by_cases hqb : q = b
    · have hkr : Hid (k = r) := hu.out k hlt (HQ.out.symm.trans hqb)
      subst hqb
      go_wp2
      go_ret
      refine ⟨?_, bw.out⟩
      rw [← hkr.out]
      rfl
    · have hq2 : ((q : Int) == b) = false := by rw [beq_eq_false_iff_ne]; omega
      have HN := hide hqb
      clear hqb
      go_wp2
      go_round
      case rel =>
        refine ⟨k + 1, ?_, by go_num⟩
        have h1 := HK.out
        have : k ≠ r := fun e => HN.out (by rw [HQ.out, e]; exact hb.out)
        omega
      case measure => simp [intOf]; omega
end Go.Proofs.Ytflpckfdickbhaa
