/- Own: the contracts of the reference's Plus and Minus of layer 1 (no statement is proved here). -/
import Derived.Test.YtlcjkmgeaiclbaaWd
import Derived.Test.YtlcjkmgeaiclbaaXor
namespace Go.Proofs.Ytlcjkmgeaiclbaa
open Go.ChangeShapes Go.WideShapes Go.ChangeAt Go.RowKit

/-- The noughts of a new block of sixteen. -/
def nought16 : List UInt8 := List.replicate 16 0
theorem zero16 (w : World) : (zeroValue 27).run Try.prog w = .ok (.agg (bcells nought16).toArray) w := by kernel_rfl

theorem four_rows (w : World) (A B C D : Obj) : ((((w.alloc A).alloc B).alloc C).alloc D).heap[w.heap.size]? = some A ∧ ((((w.alloc A).alloc B).alloc C).alloc D).heap[w.heap.size + 1]? = some B ∧
    ((((w.alloc A).alloc B).alloc C).alloc D).heap[w.heap.size + 1 + 1]? = some C ∧ ((((w.alloc A).alloc B).alloc C).alloc D).heap[w.heap.size + 1 + 1 + 1]? = some D := by
  refine ⟨?_, ?_, ?_, ?_⟩
  · rw [heap_alloc_old _ _ (by simp <;> omega), heap_alloc_old _ _ (by simp <;> omega), heap_alloc_old _ _ (by simp), heap_alloc_new]
  · rw [heap_alloc_old _ _ (by simp <;> omega), heap_alloc_old _ _ (by simp), show w.heap.size + 1 = (w.alloc A).heap.size from by simp, heap_alloc_new]
  · rw [heap_alloc_old _ _ (by simp), show w.heap.size + 1 + 1 = ((w.alloc A).alloc B).heap.size from by simp, heap_alloc_new]
  · rw [show w.heap.size + 1 + 1 + 1 = (((w.alloc A).alloc B).alloc C).heap.size from by simp, heap_alloc_new]
set_option maxHeartbeats 3200000 in
theorem rplus_core (xs ys zs : List UInt8) (cy : Nat → Nat) (Z0 : Array Value) (w : World) (hxl : xs.length = 16) (hyl : ys.length = 16) (hzl : zs.length = 16) (hZ : Hid (Z0 = (bcells (part zs 0)).toArray))
    (hz : ∀ w, (zeroValue 27).run Try.prog w = .ok (.agg Z0) w)
    (c0 : Hid (cy 0 = 0)) (cl : Hid (∀ k, cy k ≤ 1)) (cs : Hid (∀ k, k < 16 → cy (k + 1) = ((xs.getD k 0).toNat + (ys.getD k 0).toNat + cy k) / 256 ∧ (zs.getD k 0).toNat = ((xs.getD k 0).toNat + (ys.getD k 0).toNat + cy k) % 256)) :
    Calls Try.prog 25 #[.agg (bcells xs).toArray, .agg (bcells ys).toArray] w fun e w' => e = .returned (.agg (bcells zs).toArray) ∧ Below w.heap.size w w' := by
  obtain ⟨X, hX⟩ : ∃ X, X = (bcells xs).toArray := ⟨_, rfl⟩
  obtain ⟨Y, hY⟩ : ∃ Y, Y = (bcells ys).toArray := ⟨_, rfl⟩
  rw [← hX, ← hY]
  have HX := hide hX
  have HY := hide hY
  clear hX hY
  go_enter Try.func25, Try.ntmps25
  go_wp2
  clear hz
  go_loopw [6, 7] (fun c i wr => ∃ k : Nat, k ≤ 16 ∧ i = .int .i64 k ∧ c = .int .i64 (cy k : Nat) ∧ Hid (Below w.heap.size w wr ∧ wr.heap[w.heap.size]? = some (.cells X 27 (0, 0)) ∧ wr.heap[w.heap.size + 1]? = some (.cells Y 27 (0, 0)) ∧ wr.heap[w.heap.size + 1 + 1]? = some (.cells Z0 27 (0, 0)) ∧ wr.heap[w.heap.size + 1 + 1 + 1]? = some (.cells (bcells (part zs k)).toArray 27 (0, 0)))) (fun _ i _ => 16 - (intOf i).toNat)
  case atStart =>
    refine ⟨0, by omega, rfl, by rw [c0.out]; rfl, below_alloc (below_alloc (below_alloc (below_alloc (Below.refl _ _) _) _) _) _, ?_, ?_, ?_, ?_⟩
    · exact (four_rows w _ _ _ _).1
    · exact (four_rows w _ _ _ _).2.1
    · exact (four_rows w _ _ _ _).2.2.1
    · rw [← hZ.out]; exact (four_rows w _ _ _ _).2.2.2
  case round =>
    rename_i wr
    obtain ⟨k, hk, rfl, rfl, HR⟩ := hrel
    by_cases hlt : k < 16
    · obtain ⟨hb, r1, r2, r3, r4⟩ := HR.out
      have e1 : wr.cell? ⟨w.heap.size, k, none⟩ = some (.int .u8 ((xs.getD k 0).toNat : Int)) := by
        rw [cell_of_row wr _ _ _ _ _ r1, HX.out]; simpa using bcells_get xs k (by omega)
      have e2 : wr.cell? ⟨w.heap.size + 1, k, none⟩ = some (.int .u8 ((ys.getD k 0).toNat : Int)) := by
        rw [cell_of_row wr _ _ _ _ _ r2, HY.out]; simpa using bcells_get ys k (by omega)
      have e3 : wr.cell? ⟨w.heap.size + 1 + 1 + 1, k, none⟩ = some (.int .u8 (((part zs k).getD k 0).toNat : Int)) := by
        rw [cell_of_row wr _ _ _ _ _ r4]; simpa using bcells_get (part zs k) k (by rw [length_part _ _ (by omega)]; omega)
      have e4 : wr.frozen? ⟨w.heap.size + 1 + 1 + 1, k, none⟩ = false := frozen_of_row wr _ _ _ _ r4
      have C := cs.out k hlt
      have c1 := cl.out k
      obtain ⟨z, hz1⟩ : ∃ z, z = (part zs k).getD k 0 := ⟨_, rfl⟩
      rw [← hz1] at e3
      obtain ⟨x, hx⟩ : ∃ x, x = (xs.getD k 0).toNat := ⟨_, rfl⟩
      obtain ⟨y, hy⟩ : ∃ y, y = (ys.getD k 0).toNat := ⟨_, rfl⟩
      have lx : (x : Int) < 256 := by have := UInt8.toNat_lt (xs.getD k 0); omega
      have ly : (y : Int) < 256 := by have := UInt8.toNat_lt (ys.getD k 0); omega
      rw [← hx] at e1 C
      rw [← hy] at e2 C
      obtain ⟨c, hc⟩ : ∃ c, c = cy k := ⟨_, rfl⟩
      rw [← hc] at C c1 ⊢
      have lc : (c : Int) ≤ 1 := by omega
      have hk' : (k : Int) < 16 := by omega
      have HC := hide C
      clear C c1 hz1 hx hy hc hb r1 r2 r3 r4
      go_wp2
      go_quiet (fail)
      go_wp2
      go_roundw
      case rel =>
        obtain ⟨hb, r1, r2, r3, r4⟩ := HR.out
        have HC' := HC.out
        refine ⟨k + 1, by omega, by go_num, by rw [HC'.1]; first | done | (congr 1; done) | (congr 1; omega), (below_drewN hb _).setCell (by show w.heap.size ≤ w.heap.size + 1 + 1 + 1; omega) _, ?_, ?_, ?_, ?_⟩
        · rw [heap_setCell_other _ _ _ _ (by simp; try omega)]; exact r1
        · rw [heap_setCell_other _ _ _ _ (by simp; try omega)]; exact r2
        · rw [heap_setCell_other _ _ _ _ (by simp; try omega)]; exact r3
        · rw [heap_setCell_same (wr.drewN _) _ _ _ _ _ r4, List.setIfInBounds_toArray]
          have e5 := part_set zs k (by omega)
          rw [HC'.2] at e5
          rw [← e5]
          congr 4
          first | done | omega
      case measure => simp [intOf]; omega
    · obtain rfl : k = 16 := by omega
      obtain ⟨hb, r1, r2, r3, r4⟩ := HR.out
      have hpa : part zs 16 = zs := by rw [← hzl]; exact part_all zs
      rw [hpa] at r4
      have hlen : (bcells zs).toArray.size = 16 := by rw [List.size_toArray, length_bcells, hzl]
      have hZl : Z0.size = 16 := by rw [hZ.out, List.size_toArray, length_bcells, length_part _ _ (by omega), hzl]
      have R3 := hide r3
      have R4 := hide r4
      have hone : (bcells zs).toArray.all (·.oneCell') = true := by
        rw [Array.all_eq_true]; intro i hi; exact bcells_one zs _ (by simp)
      have HO := hide hone
      clear r1 r2 r3 r4 hone
      obtain ⟨V, hV⟩ : ∃ V, V = (bcells zs).toArray := ⟨_, rfl⟩
      rw [← hV] at hlen R4 HO
      have HV := hide hV
      clear hV
      go_wp2_with (first
        | (refine wpList_load_row rfl 27 _ rfl (w.heap.size + 1 + 1 + 1) rfl 27 V (0, 0) _ R4.out Try.underlying27 rfl (by rw [hlen]; rfl) ?_)
        | (refine wpList_store_row rfl 27 _ _ rfl (w.heap.size + 1 + 1) V rfl rfl 27 Z0 R3.out (by rw [hlen]; rfl) (by rw [hZl, hlen]) HO.out ?_))
      refine bodyPost_ret (v := .agg V) (results_cell_row rfl _ _ (w.heap.size + 1 + 1) 27 V (0, 0) _ rfl (setRow_heap _ _ _ _ _ _ R3.out) Try.underlying27 rfl (by rw [hlen]; rfl)) rfl ⟨by rw [HV.out], ?_⟩
      exact below_setRow hb (by omega) _
set_option maxHeartbeats 3200000 in
theorem rminus_core (xs ys zs : List UInt8) (cy : Nat → Nat) (Z0 : Array Value) (w : World) (hxl : xs.length = 16) (hyl : ys.length = 16) (hzl : zs.length = 16) (hZ : Hid (Z0 = (bcells (part zs 0)).toArray))
    (hz : ∀ w, (zeroValue 27).run Try.prog w = .ok (.agg Z0) w)
    (c0 : Hid (cy 0 = 0)) (cl : Hid (∀ k, cy k ≤ 1)) (cs : Hid (∀ k, k < 16 → cy (k + 1) = 1 - (256 + (xs.getD k 0).toNat - (ys.getD k 0).toNat - cy k) / 256 ∧ (zs.getD k 0).toNat = (256 + (xs.getD k 0).toNat - (ys.getD k 0).toNat - cy k) % 256)) :
    Calls Try.prog 27 #[.agg (bcells xs).toArray, .agg (bcells ys).toArray] w fun e w' => e = .returned (.agg (bcells zs).toArray) ∧ Below w.heap.size w w' := by
  obtain ⟨X, hX⟩ : ∃ X, X = (bcells xs).toArray := ⟨_, rfl⟩
  obtain ⟨Y, hY⟩ : ∃ Y, Y = (bcells ys).toArray := ⟨_, rfl⟩
  rw [← hX, ← hY]
  have HX := hide hX
  have HY := hide hY
  clear hX hY
  go_enter Try.func27, Try.ntmps27
  go_wp2
  clear hz
  go_loopw [6, 7] (fun c i wr => ∃ k : Nat, k ≤ 16 ∧ i = .int .i64 k ∧ c = .int .i64 (cy k : Nat) ∧ Hid (Below w.heap.size w wr ∧ wr.heap[w.heap.size]? = some (.cells X 27 (0, 0)) ∧ wr.heap[w.heap.size + 1]? = some (.cells Y 27 (0, 0)) ∧ wr.heap[w.heap.size + 1 + 1]? = some (.cells Z0 27 (0, 0)) ∧ wr.heap[w.heap.size + 1 + 1 + 1]? = some (.cells (bcells (part zs k)).toArray 27 (0, 0)))) (fun _ i _ => 16 - (intOf i).toNat)
  case atStart =>
    refine ⟨0, by omega, rfl, by rw [c0.out]; rfl, below_alloc (below_alloc (below_alloc (below_alloc (Below.refl _ _) _) _) _) _, ?_, ?_, ?_, ?_⟩
    · exact (four_rows w _ _ _ _).1
    · exact (four_rows w _ _ _ _).2.1
    · exact (four_rows w _ _ _ _).2.2.1
    · rw [← hZ.out]; exact (four_rows w _ _ _ _).2.2.2
  case round =>
    rename_i wr
    obtain ⟨k, hk, rfl, rfl, HR⟩ := hrel
    by_cases hlt : k < 16
    · obtain ⟨hb, r1, r2, r3, r4⟩ := HR.out
      have e1 : wr.cell? ⟨w.heap.size, k, none⟩ = some (.int .u8 ((xs.getD k 0).toNat : Int)) := by
        rw [cell_of_row wr _ _ _ _ _ r1, HX.out]; simpa using bcells_get xs k (by omega)
      have e2 : wr.cell? ⟨w.heap.size + 1, k, none⟩ = some (.int .u8 ((ys.getD k 0).toNat : Int)) := by
        rw [cell_of_row wr _ _ _ _ _ r2, HY.out]; simpa using bcells_get ys k (by omega)
      have e3 : wr.cell? ⟨w.heap.size + 1 + 1 + 1, k, none⟩ = some (.int .u8 (((part zs k).getD k 0).toNat : Int)) := by
        rw [cell_of_row wr _ _ _ _ _ r4]; simpa using bcells_get (part zs k) k (by rw [length_part _ _ (by omega)]; omega)
      have e4 : wr.frozen? ⟨w.heap.size + 1 + 1 + 1, k, none⟩ = false := frozen_of_row wr _ _ _ _ r4
      have C := cs.out k hlt
      have c1 := cl.out k
      obtain ⟨z, hz1⟩ : ∃ z, z = (part zs k).getD k 0 := ⟨_, rfl⟩
      rw [← hz1] at e3
      obtain ⟨x, hx⟩ : ∃ x, x = (xs.getD k 0).toNat := ⟨_, rfl⟩
      obtain ⟨y, hy⟩ : ∃ y, y = (ys.getD k 0).toNat := ⟨_, rfl⟩
      have lx : (x : Int) < 256 := by have := UInt8.toNat_lt (xs.getD k 0); omega
      have ly : (y : Int) < 256 := by have := UInt8.toNat_lt (ys.getD k 0); omega
      rw [← hx] at e1 C
      rw [← hy] at e2 C
      obtain ⟨c, hc⟩ : ∃ c, c = cy k := ⟨_, rfl⟩
      rw [← hc] at C c1 ⊢
      have lc : (c : Int) ≤ 1 := by omega
      have hk' : (k : Int) < 16 := by omega
      have HC := hide C
      clear C c1 hz1 hx hy hc hb r1 r2 r3 r4
      go_wp2
      go_quiet (fail)
      go_wp2
      go_roundw
      case rel =>
        obtain ⟨hb, r1, r2, r3, r4⟩ := HR.out
        have HC' := HC.out
        refine ⟨k + 1, by omega, by go_num, by rw [HC'.1]; first | done | (congr 1; done) | (congr 1; omega), (below_drewN hb _).setCell (by show w.heap.size ≤ w.heap.size + 1 + 1 + 1; omega) _, ?_, ?_, ?_, ?_⟩
        · rw [heap_setCell_other _ _ _ _ (by simp; try omega)]; exact r1
        · rw [heap_setCell_other _ _ _ _ (by simp; try omega)]; exact r2
        · rw [heap_setCell_other _ _ _ _ (by simp; try omega)]; exact r3
        · rw [heap_setCell_same (wr.drewN _) _ _ _ _ _ r4, List.setIfInBounds_toArray]
          have e5 := part_set zs k (by omega)
          rw [HC'.2] at e5
          rw [← e5]
          congr 4
          have hs : ((256 + x - y - c : Nat) : Int) = 256 + (x : Int) - y - c := by omega
          rw [Int.natCast_emod, hs]; rfl
      case measure => simp [intOf]; omega
    · obtain rfl : k = 16 := by omega
      obtain ⟨hb, r1, r2, r3, r4⟩ := HR.out
      have hpa : part zs 16 = zs := by rw [← hzl]; exact part_all zs
      rw [hpa] at r4
      have hlen : (bcells zs).toArray.size = 16 := by rw [List.size_toArray, length_bcells, hzl]
      have hZl : Z0.size = 16 := by rw [hZ.out, List.size_toArray, length_bcells, length_part _ _ (by omega), hzl]
      have R3 := hide r3
      have R4 := hide r4
      have hone : (bcells zs).toArray.all (·.oneCell') = true := by
        rw [Array.all_eq_true]; intro i hi; exact bcells_one zs _ (by simp)
      have HO := hide hone
      clear r1 r2 r3 r4 hone
      obtain ⟨V, hV⟩ : ∃ V, V = (bcells zs).toArray := ⟨_, rfl⟩
      rw [← hV] at hlen R4 HO
      have HV := hide hV
      clear hV
      go_wp2_with (first
        | (refine wpList_load_row rfl 27 _ rfl (w.heap.size + 1 + 1 + 1) rfl 27 V (0, 0) _ R4.out Try.underlying27 rfl (by rw [hlen]; rfl) ?_)
        | (refine wpList_store_row rfl 27 _ _ rfl (w.heap.size + 1 + 1) V rfl rfl 27 Z0 R3.out (by rw [hlen]; rfl) (by rw [hZl, hlen]) HO.out ?_))
      refine bodyPost_ret (v := .agg V) (results_cell_row rfl _ _ (w.heap.size + 1 + 1) 27 V (0, 0) _ rfl (setRow_heap _ _ _ _ _ _ R3.out) Try.underlying27 rfl (by rw [hlen]; rfl)) rfl ⟨by rw [HV.out], ?_⟩
      exact below_setRow hb (by omega) _
/-! The plain laws of the two. -/
def cyP (xs ys : List UInt8) : Nat → Nat
  | 0 => 0
  | k + 1 => ((xs.getD k 0).toNat + (ys.getD k 0).toNat + cyP xs ys k) / 256
def cyM (xs ys : List UInt8) : Nat → Nat
  | 0 => 0
  | k + 1 => 1 - (256 + (xs.getD k 0).toNat - (ys.getD k 0).toNat - cyM xs ys k) / 256
def sumP (xs ys : List UInt8) : List UInt8 := (List.range 16).map fun k => UInt8.ofNat (((xs.getD k 0).toNat + (ys.getD k 0).toNat + cyP xs ys k) % 256)
def sumM (xs ys : List UInt8) : List UInt8 := (List.range 16).map fun k => UInt8.ofNat ((256 + (xs.getD k 0).toNat - (ys.getD k 0).toNat - cyM xs ys k) % 256)
theorem cyP_le (xs ys : List UInt8) : ∀ k, cyP xs ys k ≤ 1
  | 0 => by rw [cyP]; omega
  | k + 1 => by
    have := cyP_le xs ys k
    have := UInt8.toNat_lt (xs.getD k 0)
    have := UInt8.toNat_lt (ys.getD k 0)
    rw [cyP]; omega
theorem cyM_le (xs ys : List UInt8) : ∀ k, cyM xs ys k ≤ 1
  | 0 => by rw [cyM]; omega
  | k + 1 => by rw [cyM]; omega
theorem range_get (f : Nat → UInt8) (k : Nat) (hk : k < 16) : ((List.range 16).map f).getD k 0 = f k := by
  rw [List.getD_eq_getElem?_getD, List.getElem?_map, List.getElem?_range hk]; rfl
theorem ofNat_mod (n : Nat) : (UInt8.ofNat (n % 256)).toNat = n % 256 := by
  rw [UInt8.toNat_ofNat']; exact Nat.mod_eq_of_lt (Nat.mod_lt _ (by decide))
theorem byteAt_nat (bs : List UInt8) (k : Nat) (hk : k < bs.length) : byteAt bs (k : Int) = (bs.getD k 0).toNat := by
  rw [byteAt_in bs _ (by omega) (by omega), Int.toNat_natCast]
theorem nought_part (zs : List UInt8) (h : zs.length = 16) : (bcells nought16).toArray = (bcells (part zs 0)).toArray := by
  rw [part_zero, h]; rfl
theorem rplus_any (xs ys : List UInt8) (hx : xs.length = 16) (hy : ys.length = 16) (w : World) :
    Calls Try.prog 25 #[.agg (bcells xs).toArray, .agg (bcells ys).toArray] w fun e w' => e = .returned (.agg (bcells (sumP xs ys)).toArray) ∧ Below w.heap.size w w' :=
  rplus_core xs ys (sumP xs ys) (cyP xs ys) _ w hx hy (by simp [sumP]) (nought_part _ (by simp [sumP])) zero16 rfl (cyP_le xs ys) (fun k hk => ⟨rfl, by rw [sumP, range_get _ k hk, ofNat_mod]⟩)
theorem rminus_any (xs ys : List UInt8) (hx : xs.length = 16) (hy : ys.length = 16) (w : World) :
    Calls Try.prog 27 #[.agg (bcells xs).toArray, .agg (bcells ys).toArray] w fun e w' => e = .returned (.agg (bcells (sumM xs ys)).toArray) ∧ Below w.heap.size w w' :=
  rminus_core xs ys (sumM xs ys) (cyM xs ys) _ w hx hy (by simp [sumM]) (nought_part _ (by simp [sumM])) zero16 rfl (cyM_le xs ys) (fun k hk => ⟨rfl, by rw [sumM, range_get _ k hk, ofNat_mod]⟩)
/-- From a place s on, so many bytes. -/
theorem sumP_num (xs ys : List UInt8) (hx : xs.length = 16) (hy : ys.length = 16) (s : Nat) : ∀ j, s + j ≤ 16 → num xs s j + num ys s j + cyP xs ys s = num (sumP xs ys) s j + cyP xs ys (s + j) * 2 ^ (8 * j)
  | 0, _ => by simp [num]
  | j + 1, h => by
    have ih := sumP_num xs ys hx hy s j (by omega)
    have e : (s : Int) + (j : Int) = ((s + j : Nat) : Int) := by omega
    have b1 := byteAt_nat xs (s + j) (by omega)
    have b2 := byteAt_nat ys (s + j) (by omega)
    have b3 := byteAt_nat (sumP xs ys) (s + j) (by simp [sumP]; omega)
    have g : ((sumP xs ys).getD (s + j) 0).toNat = ((xs.getD (s + j) 0).toNat + (ys.getD (s + j) 0).toNat + cyP xs ys (s + j)) % 256 := by rw [sumP, range_get _ _ (by omega), ofNat_mod]
    rw [g] at b3
    rw [num, num, num, e, b1, b2, b3]
    have c : cyP xs ys (s + (j + 1)) = ((xs.getD (s + j) 0).toNat + (ys.getD (s + j) 0).toNat + cyP xs ys (s + j)) / 256 := rfl
    have e2 : 2 ^ (8 * (j + 1)) = 256 * 2 ^ (8 * j) := by rw [Nat.mul_add, Nat.pow_add, Nat.mul_comm]
    rw [c, e2]
    generalize (xs.getD (s + j) 0).toNat = x at *
    generalize (ys.getD (s + j) 0).toNat = y at *
    generalize cyP xs ys (s + j) = cc at *
    generalize 2 ^ (8 * j) = P at *
    have d := Nat.div_add_mod (x + y + cc) 256
    have m : (x + y + cc) * P = (256 * ((x + y + cc) / 256) + (x + y + cc) % 256) * P := by rw [d]
    rw [Nat.add_mul, Nat.add_mul, Nat.add_mul] at m
    have r : (x + y + cc) / 256 * (256 * P) = 256 * ((x + y + cc) / 256) * P := by rw [Nat.mul_comm 256 ((x + y + cc) / 256), Nat.mul_assoc]
    rw [r]
    omega
theorem sumM_num (xs ys : List UInt8) (hx : xs.length = 16) (hy : ys.length = 16) (s : Nat) : ∀ j, s + j ≤ 16 → num xs s j + cyM xs ys (s + j) * 2 ^ (8 * j) = num (sumM xs ys) s j + num ys s j + cyM xs ys s
  | 0, _ => by simp [num]
  | j + 1, h => by
    have ih := sumM_num xs ys hx hy s j (by omega)
    have e : (s : Int) + (j : Int) = ((s + j : Nat) : Int) := by omega
    have b1 := byteAt_nat xs (s + j) (by omega)
    have b2 := byteAt_nat ys (s + j) (by omega)
    have b3 := byteAt_nat (sumM xs ys) (s + j) (by simp [sumM]; omega)
    have g : ((sumM xs ys).getD (s + j) 0).toNat = (256 + (xs.getD (s + j) 0).toNat - (ys.getD (s + j) 0).toNat - cyM xs ys (s + j)) % 256 := by rw [sumM, range_get _ _ (by omega), ofNat_mod]
    rw [g] at b3
    rw [num, num, num, e, b1, b2, b3]
    have c : cyM xs ys (s + (j + 1)) = 1 - (256 + (xs.getD (s + j) 0).toNat - (ys.getD (s + j) 0).toNat - cyM xs ys (s + j)) / 256 := rfl
    have e2 : 2 ^ (8 * (j + 1)) = 256 * 2 ^ (8 * j) := by rw [Nat.mul_add, Nat.pow_add, Nat.mul_comm]
    have lx := UInt8.toNat_lt (xs.getD (s + j) 0)
    have ly := UInt8.toNat_lt (ys.getD (s + j) 0)
    have lc := cyM_le xs ys (s + j)
    rw [c, e2]
    clear g b1 b2 b3 c
    generalize (xs.getD (s + j) 0).toNat = x at *
    generalize (ys.getD (s + j) 0).toNat = y at *
    generalize cyM xs ys (s + j) = cc at *
    generalize 2 ^ (8 * j) = P at *
    have key : x + (1 - (256 + x - y - cc) / 256) * 256 = (256 + x - y - cc) % 256 + y + cc := by omega
    have k2 : (x + (1 - (256 + x - y - cc) / 256) * 256) * P = ((256 + x - y - cc) % 256 + y + cc) * P := by rw [key]
    rw [Nat.add_mul, Nat.add_mul, Nat.add_mul, Nat.mul_assoc] at k2
    omega
theorem lo_of (zs : List UInt8) : num zs 0 8 < 18446744073709551616 := num_lt zs 0 8
theorem hi_of (zs : List UInt8) : num zs 8 8 < 18446744073709551616 := num_lt zs 8 8
end Go.Proofs.Ytlcjkmgeaiclbaa
