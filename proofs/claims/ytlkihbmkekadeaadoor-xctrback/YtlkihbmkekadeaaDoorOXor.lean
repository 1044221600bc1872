/- Own: the contracts of Xor and Same of layer 1 (no statement is proved here). -/
import Derived.Test.YtlkihbmkekadeaaDoorAKeyFn
namespace Go.Proofs.YtlkihbmkekadeaaDoor
open Go.ChangeShapes Go.WideShapes Go.ChangeAt Go.RowKit
set_option maxRecDepth 20000

theorem madeB (n : Nat) : madeCells #[Value.int .u8 0] n = (bcells (List.replicate n 0)).toArray := by
  apply Array.ext'
  rw [toList_madeCells_one]
  simp [bcells]
theorem omake_any (n : Nat) (hn : n ≤ 1099511627776) (w : World) :
    (Instr.makeSlice 22 (.int .i64 (n : Int)) (.int .i64 (n : Int))).run Tryd.prog w = .ok (.slice (some ⟨w.heap.size, 0, none⟩) n n) (w.alloc (.cells (bcells (List.replicate n 0)).toArray 5)) := by
  obtain ⟨i, hi⟩ : ∃ i, Tryd.prog.info? 5 = some i ∧ i.zero = some (.int .u8 0) ∧ i.size = 1 ∧ i.bytes = 1 := by
    refine ⟨_, rfl, rfl, rfl, rfl⟩
  have h := run_make (P := Tryd.prog) w 22 5 i (.int .u8 0) Tryd.underlying22 hi.1 hi.2.1 .i64 .i64 n n (by omega) (by omega) (by rw [hi.2.2.2]; omega) (by omega)
  rw [hi.2.2.1] at h
  simp only [Int.toNat_natCast, Nat.mul_one] at h
  rw [← madeB]
  exact h

/-- The exclusive or of two rows. -/
def xors (a b : List UInt8) : List UInt8 := List.zipWith (· ^^^ ·) a b
theorem length_xors (a b : List UInt8) : (xors a b).length = min a.length b.length := by simp [xors]
theorem oxor_u8 (a b : UInt8) : bits .xor .u8 ((a.toNat : Nat) : Int) ((b.toNat : Nat) : Int) = (((a ^^^ b).toNat : Nat) : Int) := by
  have ha := UInt8.toNat_lt a
  have hb := UInt8.toNat_lt b
  have hx : a.toNat ^^^ b.toNat < 2 ^ 8 := Nat.xor_lt_two_pow (by omega) (by omega)
  have h1 : (BitVec.ofInt 8 ((a.toNat : Nat) : Int)).toNat = a.toNat := by
    rw [BitVec.ofInt_natCast, BitVec.toNat_ofNat]; exact Nat.mod_eq_of_lt (by omega)
  have h2 : (BitVec.ofInt 8 ((b.toNat : Nat) : Int)).toNat = b.toNat := by
    rw [BitVec.ofInt_natCast, BitVec.toNat_ofNat]; exact Nat.mod_eq_of_lt (by omega)
  show IntKind.u8.wrap ((BitVec.ofInt 8 ((a.toNat : Nat) : Int) ^^^ BitVec.ofInt 8 ((b.toNat : Nat) : Int)).toNat : Int) = _
  rw [BitVec.toNat_xor, h1, h2, IntKind.wrap_u8, UInt8.toNat_xor]
  omega
theorem xors_get (a b : List UInt8) (k : Nat) (hk : k < min a.length b.length) : (xors a b).getD k 0 = a.getD k 0 ^^^ b.getD k 0 := by
  have h1 : k < a.length := by omega
  have h2 : k < b.length := by omega
  simp [xors, List.getElem?_zipWith, h1, h2]
/-- A row that is filled up to k. -/
def part (zs : List UInt8) (k : Nat) : List UInt8 := zs.take k ++ List.replicate (zs.length - k) 0
theorem length_part (zs : List UInt8) (k : Nat) (h : k ≤ zs.length) : (part zs k).length = zs.length := by simp [part]; omega
theorem part_set (zs : List UInt8) (k : Nat) (h : k < zs.length) : (bcells (part zs k)).set k (.int .u8 ((zs.getD k 0).toNat : Int)) = bcells (part zs (k + 1)) := by
  obtain ⟨j, hj⟩ : ∃ j, zs.length - k = j + 1 := ⟨zs.length - k - 1, by omega⟩
  have hj' : zs.length - (k + 1) = j := by omega
  unfold part
  rw [hj, hj', List.replicate_succ, List.take_succ_eq_append_getElem h]
  simp only [bcells, List.map_append, List.map_cons]
  rw [List.set_append_right _ _ (by simp; omega)]
  have : k - (List.map (fun b : UInt8 => Value.int .u8 (b.toNat : Int)) (List.take k zs)).length = 0 := by simp; omega
  rw [this]
  simp [h]
theorem part_zero (zs : List UInt8) : part zs 0 = List.replicate zs.length 0 := by simp [part]
theorem part_all (zs : List UInt8) : part zs zs.length = zs := by simp [part]

set_option maxHeartbeats 1600000 in
theorem xor_any (u v : Value) (xs ys : List UInt8) (w : World) (hu : IsB w u xs) (hv : IsB w v ys) (hn : xs.length ≤ 1099511627776) (hm : ys.length ≤ 1099511627776) :
    Calls Tryd.prog 57 #[u, v] w fun e w' => ∃ r, e = .returned r ∧ OwnB w.heap.size w' r (xors xs ys) ∧ Below w.heap.size w w' := by
  obtain ⟨_, a, c, rfl, hr⟩ := hu
  obtain ⟨_, a', c', rfl, hr'⟩ := hv
  have hcase : (xs.length : Int) ≤ ys.length ∨ (ys.length : Int) < xs.length := by omega
  rcases hcase with hle | hle
  · -- the first row is the shorter one
    have hlen : (xors xs ys).length = xs.length := by rw [length_xors]; omega
    have hmk := fun w => omake_any xs.length (by omega) w
    go_enter Tryd.func57, Tryd.ntmps57
    go_wp2
    have hr1 : Hid (xs.length = 0 ∨ ∃ b off : Nat, a = some ⟨b, off, none⟩ ∧ ∀ i, i < xs.length → w.cell? ⟨b, off + i, none⟩ = some (.int .u8 ((xs.getD i 0).toNat : Int))) := hr
    have hr2 : Hid (ys.length = 0 ∨ ∃ b off : Nat, a' = some ⟨b, off, none⟩ ∧ ∀ i, i < ys.length → w.cell? ⟨b, off + i, none⟩ = some (.int .u8 ((ys.getD i 0).toNat : Int))) := hr'
    clear hr hr' hmk
    go_loopw [15] (fun i wr => ∃ k : Nat, k ≤ xs.length ∧ i = .int .i64 k ∧ Below w.heap.size w wr ∧ wr.heap[w.heap.size]? = some (.cells (bcells (part (xors xs ys) k)).toArray 5 (0, 0))) (fun i _ => xs.length - (intOf i).toNat)
    case atStart => exact ⟨0, Nat.zero_le _, rfl, below_alloc (Below.refl _ _) _, by rw [part_zero, hlen]; exact heap_alloc_new _ _⟩
    case round =>
      rename_i wr
      obtain ⟨k, hk, rfl, hbel, hheap⟩ := hrel
      have HH : Hid (wr.heap[w.heap.size]? = some (.cells (bcells (part (xors xs ys) k)).toArray 5 (0, 0))) := hheap
      by_cases hlt : k < xs.length
      · rcases hr1.out with h | ⟨b1, o1, rfl, hc1⟩
        · omega
        rcases hr2.out with h | ⟨b2, o2, rfl, hc2⟩
        · omega
        have hx := xors_get xs ys k (by omega)
        have e1 : wr.cell? ⟨b1, o1 + k, none⟩ = some (.int .u8 ((xs.getD k 0).toNat : Int)) := later hbel (hc1 k (by omega))
        have e2 : wr.cell? ⟨b2, o2 + k, none⟩ = some (.int .u8 ((ys.getD k 0).toNat : Int)) := later hbel (hc2 k (by omega))
        obtain ⟨x, hx1⟩ : ∃ x, x = xs.getD k 0 := ⟨_, rfl⟩
        obtain ⟨y, hy1⟩ : ∃ y, y = ys.getD k 0 := ⟨_, rfl⟩
        rw [← hx1] at e1 hx
        rw [← hy1] at e2 hx
        have e3 : wr.cell? ⟨w.heap.size, k, none⟩ = some (.int .u8 (((part (xors xs ys) k).getD k 0).toNat : Int)) := by
          rw [cell_of_row wr _ _ _ _ _ hheap]; simpa using bcells_get (part (xors xs ys) k) k (by rw [length_part _ _ (by omega)]; omega)
        obtain ⟨z, hz1⟩ : ∃ z, z = (part (xors xs ys) k).getD k 0 := ⟨_, rfl⟩
        rw [← hz1] at e3
        have e4 : wr.frozen? ⟨w.heap.size, k, none⟩ = false := frozen_of_row wr _ _ _ _ hheap
        have i1 : (k : Int) < xs.length := by omega
        have i2 : (k : Int) < ys.length := by omega
        have HX : Hid ((xors xs ys).getD k 0 = x ^^^ y) := hx
        clear hx hx1 hy1 hz1 hheap hc1 hc2
        go_wp2
        go_region
        all_goals go_wp2
        all_goals go_roundw
        case rel =>
          refine ⟨k + 1, by omega, by go_num, (hbel.setCell (Nat.le_refl _) _).drew, ?_⟩
          show (wr.setCell _ _).heap[w.heap.size]? = _
          rw [heap_setCell_same wr _ _ _ _ _ HH.out, oxor_u8, ← HX.out, List.setIfInBounds_toArray, part_set _ _ (by omega)]
        case measure => simp [intOf]; omega
      · go_wp2
        go_ret
        have : k = xs.length := by omega
        subst this
        refine ⟨_, rfl, ⟨by omega, w.heap.size, Nat.le_refl _, by rw [hlen]; rfl, ?_⟩, hbel⟩
        rw [HH.out, ← hlen, part_all]
  · -- the second row is the shorter one
    have hlen : (xors xs ys).length = ys.length := by rw [length_xors]; omega
    have hmk := fun w => omake_any ys.length (by omega) w
    have hle' : ¬ ((xs.length : Int) ≤ ys.length) := by omega
    go_enter Tryd.func57, Tryd.ntmps57
    go_wp2
    have hr1 : Hid (xs.length = 0 ∨ ∃ b off : Nat, a = some ⟨b, off, none⟩ ∧ ∀ i, i < xs.length → w.cell? ⟨b, off + i, none⟩ = some (.int .u8 ((xs.getD i 0).toNat : Int))) := hr
    have hr2 : Hid (ys.length = 0 ∨ ∃ b off : Nat, a' = some ⟨b, off, none⟩ ∧ ∀ i, i < ys.length → w.cell? ⟨b, off + i, none⟩ = some (.int .u8 ((ys.getD i 0).toNat : Int))) := hr'
    clear hr hr' hmk
    go_loopw [15] (fun i wr => ∃ k : Nat, k ≤ ys.length ∧ i = .int .i64 k ∧ Below w.heap.size w wr ∧ wr.heap[w.heap.size]? = some (.cells (bcells (part (xors xs ys) k)).toArray 5 (0, 0))) (fun i _ => ys.length - (intOf i).toNat)
    case atStart => exact ⟨0, Nat.zero_le _, rfl, below_alloc (Below.refl _ _) _, by rw [part_zero, hlen]; exact heap_alloc_new _ _⟩
    case round =>
      rename_i wr
      obtain ⟨k, hk, rfl, hbel, hheap⟩ := hrel
      have HH : Hid (wr.heap[w.heap.size]? = some (.cells (bcells (part (xors xs ys) k)).toArray 5 (0, 0))) := hheap
      by_cases hlt : k < ys.length
      · rcases hr1.out with h | ⟨b1, o1, rfl, hc1⟩
        · omega
        rcases hr2.out with h | ⟨b2, o2, rfl, hc2⟩
        · omega
        have hx := xors_get xs ys k (by omega)
        have e1 : wr.cell? ⟨b1, o1 + k, none⟩ = some (.int .u8 ((xs.getD k 0).toNat : Int)) := later hbel (hc1 k (by omega))
        have e2 : wr.cell? ⟨b2, o2 + k, none⟩ = some (.int .u8 ((ys.getD k 0).toNat : Int)) := later hbel (hc2 k (by omega))
        obtain ⟨x, hx1⟩ : ∃ x, x = xs.getD k 0 := ⟨_, rfl⟩
        obtain ⟨y, hy1⟩ : ∃ y, y = ys.getD k 0 := ⟨_, rfl⟩
        rw [← hx1] at e1 hx
        rw [← hy1] at e2 hx
        have e3 : wr.cell? ⟨w.heap.size, k, none⟩ = some (.int .u8 (((part (xors xs ys) k).getD k 0).toNat : Int)) := by
          rw [cell_of_row wr _ _ _ _ _ hheap]; simpa using bcells_get (part (xors xs ys) k) k (by rw [length_part _ _ (by omega)]; omega)
        obtain ⟨z, hz1⟩ : ∃ z, z = (part (xors xs ys) k).getD k 0 := ⟨_, rfl⟩
        rw [← hz1] at e3
        have e4 : wr.frozen? ⟨w.heap.size, k, none⟩ = false := frozen_of_row wr _ _ _ _ hheap
        have i1 : (k : Int) < xs.length := by omega
        have i2 : (k : Int) < ys.length := by omega
        have HX : Hid ((xors xs ys).getD k 0 = x ^^^ y) := hx
        clear hx hx1 hy1 hz1 hheap hc1 hc2
        go_wp2
        go_region
        all_goals go_wp2
        all_goals go_roundw
        case rel =>
          refine ⟨k + 1, by omega, by go_num, (hbel.setCell (Nat.le_refl _) _).drew, ?_⟩
          show (wr.setCell _ _).heap[w.heap.size]? = _
          rw [heap_setCell_same wr _ _ _ _ _ HH.out, oxor_u8, ← HX.out, List.setIfInBounds_toArray, part_set _ _ (by omega)]
        case measure => simp [intOf]; omega
      · go_wp2
        go_ret
        have : k = ys.length := by omega
        subst this
        refine ⟨_, rfl, ⟨by omega, w.heap.size, Nat.le_refl _, by rw [hlen]; rfl, ?_⟩, hbel⟩
        rw [HH.out, ← hlen, part_all]
end Go.Proofs.YtlkihbmkekadeaaDoor
