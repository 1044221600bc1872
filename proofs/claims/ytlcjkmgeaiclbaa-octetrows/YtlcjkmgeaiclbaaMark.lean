/- Own: the contracts of roundedUp, Padded and Marked of layer 1 (no statement is proved here). -/
import Derived.Test.YtlcjkmgeaiclbaaWord
namespace Go.Proofs.Ytlcjkmgeaiclbaa
open Go.ChangeShapes Go.WideShapes Go.ChangeAt Go.RowKit

/-- The least multiple of a size from n on; n, where the size is below 1. -/
def up (n : Nat) (size : Int) : Nat := if size < 1 then n else n + (size.toNat - n % size.toNat) % size.toNat
theorem up_ge (n : Nat) (size : Int) : n ≤ up n size := by unfold up; split <;> omega
theorem up_le (n : Nat) (size : Int) : up n size ≤ n + size.toNat := by
  unfold up; split
  · omega
  · have := Nat.mod_lt (size.toNat - n % size.toNat) (show 0 < size.toNat by omega); omega

theorem roundedUp_small (n : Nat) (size : Int) (w : World) (hs : size < 1) :
    Calls Try.prog 40 #[.int .i64 n, .int .i64 size] w fun e w' => e = .returned (.int .i64 n) ∧ w' = w := by
  go_enter Try.func40, Try.ntmps40
  go_wp2
  go_ret
  exact ⟨rfl, rfl⟩
theorem roundedUp_nat (n size : Nat) (w : World) (hn : n ≤ 1099511627776) (hs : 1 ≤ size) (hs' : size ≤ 1099511627776) :
    Calls Try.prog 40 #[.int .i64 n, .int .i64 size] w fun e w' => e = .returned (.int .i64 (n + (size - n % size) % size : Nat)) ∧ w' = w := by
  have h0 : ¬ ((size : Int) < 1) := by omega
  have h1 : ((size : Int) == 0) = false := by rw [beq_eq_false_iff_ne]; omega
  have h2 : n % size < size := Nat.mod_lt _ (by omega)
  have h3 : (size - n % size) % size < size := Nat.mod_lt _ (by omega)
  go_enter Try.func40, Try.ntmps40
  go_wp2
  go_ret
  have e0 : (((size - n % size : Nat) : Int)) = (size : Int) - (n : Int) % size := by
    have : ((n % size : Nat) : Int) = (n : Int) % size := by simp
    omega
  have e1 : (-((n : Int) % size) % (size : Int)) = ((size - n % size : Nat) : Int) % size := by rw [e0]; simp
  have e2 : (((size - n % size : Nat) : Int) % size) = ((size - n % size) % size : Nat) := by simp
  refine ⟨ret_int ?_, rfl⟩
  rw [e1, e2]
  simp only [wrap64]
  omega
theorem roundedUp_any (n : Nat) (size : Int) (w : World) (hn : n ≤ 1099511627776) (hs : size ≤ 1099511627776) :
    Calls Try.prog 40 #[.int .i64 n, .int .i64 size] w fun e w' => e = .returned (.int .i64 (up n size : Nat)) ∧ w' = w := by
  unfold up
  by_cases h : size < 1
  · rw [if_pos h]; exact roundedUp_small n size w h
  · rw [if_neg h]
    obtain ⟨s, rfl⟩ := Int.eq_ofNat_of_zero_le (show 0 ≤ size by omega)
    simpa using roundedUp_nat n s w hn (by omega) (by omega)

theorem madeB (n : Nat) : madeCells #[Value.int .u8 0] n = (bcells (List.replicate n 0)).toArray := by
  apply Array.ext'
  rw [toList_madeCells_one]
  simp [bcells]
theorem make_any (n : Nat) (hn : n ≤ 1099511627776) (w : World) :
    (Instr.makeSlice 22 (.int .i64 (n : Int)) (.int .i64 (n : Int))).run Try.prog w = .ok (.slice (some ⟨w.heap.size, 0, none⟩) n n) (w.alloc (.cells (bcells (List.replicate n 0)).toArray 5)) := by
  obtain ⟨i, hi⟩ : ∃ i, Try.prog.info? 5 = some i ∧ i.zero = some (.int .u8 0) ∧ i.size = 1 ∧ i.bytes = 1 := by
    refine ⟨_, rfl, rfl, rfl, rfl⟩
  have h := run_make (P := Try.prog) w 22 5 i (.int .u8 0) Try.underlying22 hi.1 hi.2.1 .i64 .i64 n n (by omega) (by omega) (by rw [hi.2.2.2]; omega) (by omega)
  rw [hi.2.2.1] at h
  simp only [Int.toNat_natCast, Nat.mul_one] at h
  rw [← madeB]
  exact h

theorem copy_new (w : World) (L c : Nat) (bs : List UInt8) (a : Option Addr) (hr : bs.length = 0 ∨ ∃ b off : Nat, a = some ⟨b, off, none⟩ ∧ ∀ i, i < bs.length → w.cell? ⟨b, off + i, none⟩ = some (.int .u8 ((bs.getD i 0).toNat : Int))) (hL : bs.length ≤ L) :
    (Builtin.copy_ #[22, 22] 3 #[.slice (some ⟨w.heap.size, 0, none⟩) L L, .slice a bs.length c]).run Try.prog (w.alloc (.cells (bcells (List.replicate L 0)).toArray 5)) = .ok (goInt bs.length) (w.alloc (.cells (bcells (bs ++ List.replicate (L - bs.length) 0)).toArray 5)) := by
  rcases hr with h0 | ⟨b, off, rfl, hc⟩
  · obtain rfl : bs = [] := List.eq_nil_of_length_eq_zero h0
    rcases a with _ | a
    · obtain ⟨i, hq, hi⟩ : ∃ i, Try.prog.info? 5 = some i ∧ i.size = 1 := ⟨_, rfl, rfl⟩
      simp [Builtin.copy_, run_underlying Try.underlying22, Builtin.lenOf, Builtin.firstCells, sizeOf, typeInfo, hq, storeCells]
    · have h := run_copy_row (P := Try.prog) (w.alloc (.cells (bcells (List.replicate L 0)).toArray 5)) 22 22 3 5 w.heap.size 0 L L a 0 c (bcells (List.replicate L 0)).toArray 5 [] Try.underlying22 rfl (heap_alloc_new _ _) (by simp) (fun j v hj => by simp at hj) (by simp) (fun v hv => by cases hv)
      rw [World.setRow_alloc_new] at h
      simpa using h
  · have h := run_copy_row (P := Try.prog) (w.alloc (.cells (bcells (List.replicate L 0)).toArray 5)) 22 22 3 5 w.heap.size 0 L L ⟨b, off, none⟩ bs.length c (bcells (List.replicate L 0)).toArray 5 (bcells bs) Try.underlying22 rfl (heap_alloc_new _ _) (by rw [length_bcells]; exact (Nat.min_eq_left hL).symm)
      (fun j v hj => by
        have hlt : j < bs.length := by rw [← length_bcells bs]; exact (List.getElem?_eq_some_iff.1 hj).1
        rw [bcells_get bs j hlt] at hj
        have := hc j hlt
        refine Go.Proofs.Ytlcjkmgeaiclbaa.later ((Below.refl _ _).alloc (Nat.le_refl _) _) ?_
        rw [← hj, addr_add]; exact this) (by simp [length_bcells]; omega) (bcells_one bs)
    rw [h, World.setRow_alloc_new, length_bcells]
    congr 4
    simp [bcells]

theorem set_mark (bs : List UInt8) (L : Nat) (m : UInt8) (h : bs.length + 1 ≤ L) : (bcells (bs ++ List.replicate (L - bs.length) 0)).set bs.length (.int .u8 (m.toNat : Int)) = bcells (bs ++ m :: List.replicate (L - (bs.length + 1)) 0) := by
  obtain ⟨k, hk⟩ : ∃ k, L - bs.length = k + 1 := ⟨L - bs.length - 1, by omega⟩
  have hk' : L - (bs.length + 1) = k := by omega
  rw [hk, hk', List.replicate_succ]
  simp only [bcells, List.map_append, List.map_cons]
  rw [List.set_append_right _ _ (by simp)]
  simp

set_option maxHeartbeats 800000 in
theorem marked_w (v : Value) (bs : List UInt8) (m : UInt8) (size : Int) (w : World) (hv : IsB w v bs) (hn : bs.length ≤ 1099511627) (hs : size ≤ 1099511627) :
    Calls Try.prog 30 #[v, .int .u8 (m.toNat : Int), .int .i64 size] w fun e w' => e = .returned (.slice (some ⟨w.heap.size, 0, none⟩) (up (bs.length + 1) size) (up (bs.length + 1) size)) ∧ w' = w.alloc (.cells (bcells (bs ++ m :: List.replicate (up (bs.length + 1) size - (bs.length + 1)) 0)).toArray 5) := by
  have hu := up_ge (bs.length + 1) size
  have hu' := up_le (bs.length + 1) size
  obtain ⟨L, hL⟩ : ∃ L, L = up (bs.length + 1) size := ⟨_, rfl⟩
  have hLu : Hid (up (bs.length + 1) size = L) := hL.symm
  rw [← hL] at hu hu'
  have hmk := fun w => make_any L (by omega) w
  obtain ⟨hn0, a, c, rfl, hr⟩ := hv
  have hr' : Hid (bs.length = 0 ∨ ∃ b off : Nat, a = some ⟨b, off, none⟩ ∧ ∀ i, i < bs.length → w.cell? ⟨b, off + i, none⟩ = some (.int .u8 ((bs.getD i 0).toNat : Int))) := hr
  have hcp := copy_new w L c bs a hr (by omega)
  have hat : (bcells (bs ++ List.replicate (L - bs.length) 0))[bs.length]? = some (.int .u8 0) := by
    obtain ⟨k, hk⟩ : ∃ k, L - bs.length = k + 1 := ⟨L - bs.length - 1, by omega⟩
    rw [hk]; simp [bcells]
  clear hr hL
  go_enter Try.func30, Try.ntmps30
  go_wp2_with (go_at_call 40; refine (roundedUp_any (bs.length + 1) size _ (by omega) (by omega)).mono ?_; rintro e w' ⟨rfl, rfl⟩; rw [hLu.out])
  go_ret
  rw [hLu.out, set_mark _ _ _ hu]
  exact ⟨rfl, rfl⟩

set_option maxHeartbeats 800000 in
theorem padded_w (v : Value) (bs : List UInt8) (size : Int) (w : World) (hv : IsB w v bs) (hn : bs.length ≤ 1099511627) (hs : size ≤ 1099511627) :
    Calls Try.prog 29 #[v, .int .i64 size] w fun e w' => e = .returned (.slice (some ⟨w.heap.size, 0, none⟩) (up bs.length size) (up bs.length size)) ∧ w' = w.alloc (.cells (bcells (bs ++ List.replicate (up bs.length size - bs.length) 0)).toArray 5) := by
  have hu := up_ge bs.length size
  have hu' := up_le bs.length size
  obtain ⟨L, hL⟩ : ∃ L, L = up bs.length size := ⟨_, rfl⟩
  have hLu : Hid (up bs.length size = L) := hL.symm
  rw [← hL] at hu hu'
  have hmk := fun w => make_any L (by omega) w
  obtain ⟨hn0, a, c, rfl, hr⟩ := hv
  have hcp := copy_new w L c bs a hr (by omega)
  clear hr hL
  go_enter Try.func29, Try.ntmps29
  go_wp2_with (go_at_call 40; refine (roundedUp_any bs.length size _ (by omega) (by omega)).mono ?_; rintro e w' ⟨rfl, rfl⟩; rw [hLu.out])
  go_ret
  rw [hLu.out]
  exact ⟨rfl, rfl⟩

theorem own_new (w : World) (bs : List UInt8) (n : Nat) (hn : bs.length = n) (hm : n ≤ 9223372036854775807) : OwnB w.heap.size (w.alloc (.cells (bcells bs).toArray 5)) (.slice (some ⟨w.heap.size, 0, none⟩) n n) bs := by
  subst hn
  exact ⟨hm, w.heap.size, Nat.le_refl _, rfl, heap_alloc_new _ _⟩
theorem marked_any (v : Value) (bs : List UInt8) (m : UInt8) (size : Int) (w : World) (hv : IsB w v bs) (hn : bs.length ≤ 1099511627) (hs : size ≤ 1099511627) :
    Calls Try.prog 30 #[v, .int .u8 (m.toNat : Int), .int .i64 size] w fun e w' => ∃ r, e = .returned r ∧ OwnB w.heap.size w' r (bs ++ m :: List.replicate (up (bs.length + 1) size - (bs.length + 1)) 0) ∧ Below w.heap.size w w' := by
  have hu := up_ge (bs.length + 1) size
  have hu' := up_le (bs.length + 1) size
  refine (marked_w v bs m size w hv hn hs).mono ?_
  rintro e w' ⟨rfl, rfl⟩
  exact ⟨_, rfl, own_new w _ _ (by simp; omega) (by omega), (Below.refl _ _).alloc (Nat.le_refl _) _⟩
theorem padded_any (v : Value) (bs : List UInt8) (size : Int) (w : World) (hv : IsB w v bs) (hn : bs.length ≤ 1099511627) (hs : size ≤ 1099511627) :
    Calls Try.prog 29 #[v, .int .i64 size] w fun e w' => ∃ r, e = .returned r ∧ OwnB w.heap.size w' r (bs ++ List.replicate (up bs.length size - bs.length) 0) ∧ Below w.heap.size w w' := by
  have hu := up_ge bs.length size
  have hu' := up_le bs.length size
  refine (padded_w v bs size w hv hn hs).mono ?_
  rintro e w' ⟨rfl, rfl⟩
  exact ⟨_, rfl, own_new w _ _ (by simp; omega) (by omega), (Below.refl _ _).alloc (Nat.le_refl _) _⟩
end Go.Proofs.Ytlcjkmgeaiclbaa
