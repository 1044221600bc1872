/- Own: the contracts of the reference's shift (no statement is proved here). -/
import Derived.Test.YtlkihbmkekadeaaDoorRStep
namespace Go.Proofs.YtlkihbmkekadeaaDoor
open Go.ChangeShapes Go.WideShapes Go.ChangeAt Go.RowKit
set_option maxRecDepth 20000
set_option linter.unusedSimpArgs false in
set_option maxRecDepth 100000 in
set_option maxHeartbeats 4000000 in
theorem shift_core (f R : Nat → Nat) (w : World) (hR : Hid (∀ i, R i = f (shi i))) :
    Calls Tryd.prog 68 #[.agg (bc 16 f).toArray, .bool false] w fun e w' => e = .returned (.agg (bc 16 R).toArray) ∧ Below w.heap.size w w' := by
  obtain ⟨X, hX⟩ : ∃ X, X = bc 16 f := ⟨_, rfl⟩
  obtain ⟨Z, hZ⟩ : ∃ Z, Z = bc 16 (fun _ => 0) := ⟨_, rfl⟩
  have hz := zero16
  rw [← hX]
  rw [← hZ] at hz
  have HX := hide hX
  have HZ := hide hZ
  clear hX hZ
  go_enter Tryd.func68, Tryd.ntmps68
  go_wp2
  clear hz
  go_loopw [6] (fun j wr => ∃ i : Nat, i ≤ 16 ∧ j = .int .i64 i ∧ Hid (Below w.heap.size w wr ∧ wr.heap[w.heap.size]? = some (.cells X.toArray 31 (0, 0)) ∧ wr.heap[w.heap.size + 1]? = some (.cells Z.toArray 31 (0, 0)) ∧ wr.heap[w.heap.size + 1 + 1]? = some (.cells (bc 16 (upto i R)).toArray 31 (0, 0)))) (fun i _ => 16 - (intOf i).toNat)
  case atStart =>
    have h := three_new w X.toArray Z.toArray Z.toArray 31 31 31
    refine ⟨0, by omega, rfl, h.1, h.2.1, h.2.2.1, ?_⟩
    rw [upto_zero, ← HZ.out]
    exact h.2.2.2
  case round =>
    obtain ⟨i, hi, rfl, HR⟩ := hrel
    by_cases hlt : i < 16
    · obtain ⟨q, eq⟩ : ∃ q, q = shi i := ⟨_, rfl⟩
      have hq : q < 16 := by rw [eq]; exact shi_lt i hlt
      obtain ⟨x, ex⟩ : ∃ x, x = f q := ⟨_, rfl⟩
      have e1 : wr.cell? ⟨w.heap.size, 4 * ((i / 4 + i) % 4) + i % 4, none⟩ = some (.int .u8 (x : Nat)) := by
        have := row_cell (by rw [← HX.out]; exact HR.out.2.1) q hq
        rw [show 4 * ((i / 4 + i) % 4) + i % 4 = q by rw [eq]; exact (show ∀ i, i < 16 → 4 * ((i / 4 + i) % 4) + i % 4 = shi i by decide) i hlt, ex]; exact this
      obtain ⟨o, e3⟩ : ∃ o, wr.cell? ⟨w.heap.size + 1 + 1, i, none⟩ = some o := ⟨_, row_cell HR.out.2.2.2 i hlt⟩
      have e4 : wr.frozen? ⟨w.heap.size + 1 + 1, i, none⟩ = false := frozen_of_row wr _ _ _ _ HR.out.2.2.2
      have HE : Hid (x = R i) := by
        show x = R i
        rw [ex, hR.out, eq]
      have EQ := hide eq
      have i1 : (i : Int) < 16 := by omega
      have i2 : (q : Int) < 16 := by omega
      clear ex eq
      go_wp2
      go_roundw
      case rel =>
        obtain ⟨hb, h1, h2, h3⟩ := HR.out
        refine ⟨i + 1, by omega, by go_num, hb.setCell (by show w.heap.size ≤ w.heap.size + 1 + 1; omega) _, ?_, ?_, ?_⟩
        · rw [heap_setCell_other _ _ _ _ (by show w.heap.size ≠ w.heap.size + 1 + 1; omega)]; exact h1
        · rw [heap_setCell_other _ _ _ _ (by simp)]; exact h2
        · rw [heap_setCell_same _ _ _ _ _ _ h3, List.setIfInBounds_toArray, HE.out, upto_set]
      case measure => simp [intOf]; omega
    · obtain rfl : i = 16 := by omega
      have RV : Hid (wr.heap[w.heap.size + 1 + 1]? = some (.cells (bc 16 R).toArray 31 (0, 0))) := by
        have := HR.out.2.2.2
        rw [upto_all] at this
        exact this
      have R1 := hide HR.out.2.2.1
      have HB := hide HR.out.1
      clear HR hlt hi
      obtain ⟨V, hV⟩ : ∃ V, V = (bc 16 R).toArray := ⟨_, rfl⟩
      have hVl : V.size = 16 := by rw [hV, List.size_toArray, bc_len]
      have hV1 : Hid (V.all (·.oneCell') = true) := by rw [hV]; exact bc_one _ _
      have HV := hide hV
      have R2 : Hid (wr.heap[w.heap.size + 1 + 1]? = some (.cells V 31 (0, 0))) := by rw [hV]; exact RV.out
      have hZl : Z.toArray.size = 16 := by rw [HZ.out, List.size_toArray, bc_len]
      clear hV
      go_wp2_with (first
        | (refine wpList_load_row rfl 31 _ rfl (w.heap.size + 1 + 1) rfl 31 V (0, 0) _ R2.out Tryd.underlying31 rfl (by rw [hVl]; rfl) ?_)
        | (refine wpList_store_row rfl 31 _ _ rfl (w.heap.size + 1) V rfl rfl 31 Z.toArray R1.out (by rw [hVl]; rfl) (by rw [hZl, hVl]) hV1.out ?_))
      refine bodyPost_ret (v := .agg V) (results_cell_row rfl _ _ (w.heap.size + 1) 31 V (0, 0) _ rfl (setRow_heap _ _ _ _ _ _ R1.out) Tryd.underlying31 rfl (by rw [hVl]; rfl)) rfl ⟨by rw [HV.out], ?_⟩
      exact below_setRow HB.out (by omega) _
set_option linter.unusedSimpArgs false in
set_option maxRecDepth 100000 in
set_option maxHeartbeats 4000000 in
theorem unshift_core (f R : Nat → Nat) (w : World) (hR : Hid (∀ i, R i = f (shb i))) :
    Calls Tryd.prog 68 #[.agg (bc 16 f).toArray, .bool true] w fun e w' => e = .returned (.agg (bc 16 R).toArray) ∧ Below w.heap.size w w' := by
  obtain ⟨X, hX⟩ : ∃ X, X = bc 16 f := ⟨_, rfl⟩
  obtain ⟨Z, hZ⟩ : ∃ Z, Z = bc 16 (fun _ => 0) := ⟨_, rfl⟩
  have hz := zero16
  rw [← hX]
  rw [← hZ] at hz
  have HX := hide hX
  have HZ := hide hZ
  clear hX hZ
  go_enter Tryd.func68, Tryd.ntmps68
  go_wp2
  clear hz
  go_loopw [6] (fun j wr => ∃ i : Nat, i ≤ 16 ∧ j = .int .i64 i ∧ Hid (Below w.heap.size w wr ∧ wr.heap[w.heap.size]? = some (.cells X.toArray 31 (0, 0)) ∧ wr.heap[w.heap.size + 1]? = some (.cells Z.toArray 31 (0, 0)) ∧ wr.heap[w.heap.size + 1 + 1]? = some (.cells (bc 16 (upto i R)).toArray 31 (0, 0)))) (fun i _ => 16 - (intOf i).toNat)
  case atStart =>
    have h := three_new w X.toArray Z.toArray Z.toArray 31 31 31
    refine ⟨0, by omega, rfl, h.1, h.2.1, h.2.2.1, ?_⟩
    rw [upto_zero, ← HZ.out]
    exact h.2.2.2
  case round =>
    obtain ⟨i, hi, rfl, HR⟩ := hrel
    by_cases hlt : i < 16
    · obtain ⟨q, eq⟩ : ∃ q, q = shb i := ⟨_, rfl⟩
      have hq : q < 16 := by rw [eq]; exact shb_lt i hlt
      obtain ⟨x, ex⟩ : ∃ x, x = f q := ⟨_, rfl⟩
      have e1 : wr.cell? ⟨w.heap.size, (4 * (((i : Int) / 4 + 4 - i) % 4) + (i : Int) % 4).toNat, none⟩ = some (.int .u8 (x : Nat)) := by
        have := row_cell (by rw [← HX.out]; exact HR.out.2.1) q hq
        rw [show (4 * (((i : Int) / 4 + 4 - i) % 4) + (i : Int) % 4).toNat = q by rw [eq]; exact (show ∀ i, i < 16 → (4 * ((((i : Nat) : Int) / 4 + 4 - ((i : Nat) : Int)) % 4) + ((i : Nat) : Int) % 4).toNat = shb i by decide) i hlt, ex]; exact this
      obtain ⟨o, e3⟩ : ∃ o, wr.cell? ⟨w.heap.size + 1 + 1, i, none⟩ = some o := ⟨_, row_cell HR.out.2.2.2 i hlt⟩
      have e4 : wr.frozen? ⟨w.heap.size + 1 + 1, i, none⟩ = false := frozen_of_row wr _ _ _ _ HR.out.2.2.2
      have HE : Hid (x = R i) := by
        show x = R i
        rw [ex, hR.out, eq]
      have EQ := hide eq
      have i1 : (i : Int) < 16 := by omega
      have i2 : (q : Int) < 16 := by omega
      clear ex eq
      go_wp2
      go_roundw
      case rel =>
        obtain ⟨hb, h1, h2, h3⟩ := HR.out
        refine ⟨i + 1, by omega, by go_num, hb.setCell (by show w.heap.size ≤ w.heap.size + 1 + 1; omega) _, ?_, ?_, ?_⟩
        · rw [heap_setCell_other _ _ _ _ (by show w.heap.size ≠ w.heap.size + 1 + 1; omega)]; exact h1
        · rw [heap_setCell_other _ _ _ _ (by simp)]; exact h2
        · rw [heap_setCell_same _ _ _ _ _ _ h3, List.setIfInBounds_toArray, HE.out, upto_set]
      case measure => simp [intOf]; omega
    · obtain rfl : i = 16 := by omega
      have RV : Hid (wr.heap[w.heap.size + 1 + 1]? = some (.cells (bc 16 R).toArray 31 (0, 0))) := by
        have := HR.out.2.2.2
        rw [upto_all] at this
        exact this
      have R1 := hide HR.out.2.2.1
      have HB := hide HR.out.1
      clear HR hlt hi
      obtain ⟨V, hV⟩ : ∃ V, V = (bc 16 R).toArray := ⟨_, rfl⟩
      have hVl : V.size = 16 := by rw [hV, List.size_toArray, bc_len]
      have hV1 : Hid (V.all (·.oneCell') = true) := by rw [hV]; exact bc_one _ _
      have HV := hide hV
      have R2 : Hid (wr.heap[w.heap.size + 1 + 1]? = some (.cells V 31 (0, 0))) := by rw [hV]; exact RV.out
      have hZl : Z.toArray.size = 16 := by rw [HZ.out, List.size_toArray, bc_len]
      clear hV
      go_wp2_with (first
        | (refine wpList_load_row rfl 31 _ rfl (w.heap.size + 1 + 1) rfl 31 V (0, 0) _ R2.out Tryd.underlying31 rfl (by rw [hVl]; rfl) ?_)
        | (refine wpList_store_row rfl 31 _ _ rfl (w.heap.size + 1) V rfl rfl 31 Z.toArray R1.out (by rw [hVl]; rfl) (by rw [hZl, hVl]) hV1.out ?_))
      refine bodyPost_ret (v := .agg V) (results_cell_row rfl _ _ (w.heap.size + 1) 31 V (0, 0) _ rfl (setRow_heap _ _ _ _ _ _ R1.out) Tryd.underlying31 rfl (by rw [hVl]; rfl)) rfl ⟨by rw [HV.out], ?_⟩
      exact below_setRow HB.out (by omega) _
end Go.Proofs.YtlkihbmkekadeaaDoor
