/- Own: the contracts of Xor and Same of layer 1 (no statement is proved here). -/
import Derived.Test.YtlcjkmgeaiclbaaMark
namespace Go.Proofs.Ytlcjkmgeaiclbaa
open Go.ChangeShapes Go.WideShapes Go.ChangeAt Go.RowKit

/-- The exclusive or of two rows. -/
def xors (a b : List UInt8) : List UInt8 := List.zipWith (· ^^^ ·) a b
theorem length_xors (a b : List UInt8) : (xors a b).length = min a.length b.length := by simp [xors]
theorem xor_u8 (a b : UInt8) : bits .xor .u8 ((a.toNat : Nat) : Int) ((b.toNat : Nat) : Int) = (((a ^^^ b).toNat : Nat) : Int) := by
  have ha := UInt8.toNat_lt a
  have hb := UInt8.toNat_lt b
  have hx : a.toNat ^^^ b.toNat < 2 ^ 8 := Nat.xor_lt_two_pow (by omega) (by omega)
  have h1 : (BitVec.ofInt 8 ((a.toNat : Nat) : Int)).toNat = a.toNat := by
    rw [BitVec.ofInt_natCast, BitVec.toNat_ofNat]; exact Nat.mod_eq_of_lt (by omega)
  have h2 : (BitVec.ofInt 8 ((b.toNat : Nat) : Int)).toNat = b.toNat := by
    rw [BitVec.ofInt_natCast, BitVec.toNat_ofNat]; exact Nat.mod_eq_of_lt (by omega)
  show IntKind.u8.wrap ((BitVec.ofInt 8 ((a.toNat : Nat) : Int) ^^^ BitVec.ofInt 8 ((b.toNat : Nat) : Int)).toNat : Int) = _
  rw [BitVec.toNat_xor, h1, h2, IntKind.wrap_u8, UInt8.toNat_xor]
  omega
theorem xors_get (a b : List UInt8) (k : Nat) (hk : k < min a.length b.length) : (xors a b).getD k 0 = a.getD k 0 ^^^ b.getD k 0 := by
  have h1 : k < a.length := by omega
  have h2 : k < b.length := by omega
  simp [xors, List.getElem?_zipWith, h1, h2]
/-- A row that is filled up to k. -/
def part (zs : List UInt8) (k : Nat) : List UInt8 := zs.take k ++ List.replicate (zs.length - k) 0
theorem length_part (zs : List UInt8) (k : Nat) (h : k ≤ zs.length) : (part zs k).length = zs.length := by simp [part]; omega
theorem part_set (zs : List UInt8) (k : Nat) (h : k < zs.length) : (bcells (part zs k)).set k (.int .u8 ((zs.getD k 0).toNat : Int)) = bcells (part zs (k + 1)) := by
  obtain ⟨j, hj⟩ : ∃ j, zs.length - k = j + 1 := ⟨zs.length - k - 1, by omega⟩
  have hj' : zs.length - (k + 1) = j := by omega
  unfold part
  rw [hj, hj', List.replicate_succ, List.take_succ_eq_append_getElem h]
  simp only [bcells, List.map_append, List.map_cons]
  rw [List.set_append_right _ _ (by simp; omega)]
  have : k - (List.map (fun b : UInt8 => Value.int .u8 (b.toNat : Int)) (List.take k zs)).length = 0 := by simp; omega
  rw [this]
  simp [h]
theorem part_zero (zs : List UInt8) : part zs 0 = List.replicate zs.length 0 := by simp [part]
theorem part_all (zs : List UInt8) : part zs zs.length = zs := by simp [part]

set_option maxHeartbeats 1600000 in
theorem xor_any (u v : Value) (xs ys : List UInt8) (w : World) (hu : IsB w u xs) (hv : IsB w v ys) (hn : xs.length ≤ 1099511627776) (hm : ys.length ≤ 1099511627776) :
    Calls Try.prog 33 #[u, v] w fun e w' => ∃ r, e = .returned r ∧ OwnB w.heap.size w' r (xors xs ys) ∧ Below w.heap.size w w' := by
  obtain ⟨_, a, c, rfl, hr⟩ := hu
  obtain ⟨_, a', c', rfl, hr'⟩ := hv
  have hcase : (xs.length : Int) ≤ ys.length ∨ (ys.length : Int) < xs.length := by omega
  rcases hcase with hle | hle
  · -- the first row is the shorter one
    have hlen : (xors xs ys).length = xs.length := by rw [length_xors]; omega
    have hmk := fun w => make_any xs.length (by omega) w
    go_enter Try.func33, Try.ntmps33
    go_wp2
    have hr1 : Hid (xs.length = 0 ∨ ∃ b off : Nat, a = some ⟨b, off, none⟩ ∧ ∀ i, i < xs.length → w.cell? ⟨b, off + i, none⟩ = some (.int .u8 ((xs.getD i 0).toNat : Int))) := hr
    have hr2 : Hid (ys.length = 0 ∨ ∃ b off : Nat, a' = some ⟨b, off, none⟩ ∧ ∀ i, i < ys.length → w.cell? ⟨b, off + i, none⟩ = some (.int .u8 ((ys.getD i 0).toNat : Int))) := hr'
    clear hr hr' hmk
    go_loopw [15] (fun i wr => ∃ k : Nat, k ≤ xs.length ∧ i = .int .i64 k ∧ Below w.heap.size w wr ∧ wr.heap[w.heap.size]? = some (.cells (bcells (part (xors xs ys) k)).toArray 5 (0, 0))) (fun i _ => xs.length - (intOf i).toNat)
    case atStart => exact ⟨0, Nat.zero_le _, rfl, below_alloc (Below.refl _ _) _, by rw [part_zero, hlen]; exact heap_alloc_new _ _⟩
    case round =>
      rename_i wr
      obtain ⟨k, hk, rfl, hbel, hheap⟩ := hrel
      have HH : Hid (wr.heap[w.heap.size]? = some (.cells (bcells (part (xors xs ys) k)).toArray 5 (0, 0))) := hheap
      by_cases hlt : k < xs.length
      · rcases hr1.out with h | ⟨b1, o1, rfl, hc1⟩
        · omega
        rcases hr2.out with h | ⟨b2, o2, rfl, hc2⟩
        · omega
        have hx := xors_get xs ys k (by omega)
        have e1 : wr.cell? ⟨b1, o1 + k, none⟩ = some (.int .u8 ((xs.getD k 0).toNat : Int)) := later hbel (hc1 k (by omega))
        have e2 : wr.cell? ⟨b2, o2 + k, none⟩ = some (.int .u8 ((ys.getD k 0).toNat : Int)) := later hbel (hc2 k (by omega))
        obtain ⟨x, hx1⟩ : ∃ x, x = xs.getD k 0 := ⟨_, rfl⟩
        obtain ⟨y, hy1⟩ : ∃ y, y = ys.getD k 0 := ⟨_, rfl⟩
        rw [← hx1] at e1 hx
        rw [← hy1] at e2 hx
        have e3 : wr.cell? ⟨w.heap.size, k, none⟩ = some (.int .u8 (((part (xors xs ys) k).getD k 0).toNat : Int)) := by
          rw [cell_of_row wr _ _ _ _ _ hheap]; simpa using bcells_get (part (xors xs ys) k) k (by rw [length_part _ _ (by omega)]; omega)
        obtain ⟨z, hz1⟩ : ∃ z, z = (part (xors xs ys) k).getD k 0 := ⟨_, rfl⟩
        rw [← hz1] at e3
        have e4 : wr.frozen? ⟨w.heap.size, k, none⟩ = false := frozen_of_row wr _ _ _ _ hheap
        have i1 : (k : Int) < xs.length := by omega
        have i2 : (k : Int) < ys.length := by omega
        have HX : Hid ((xors xs ys).getD k 0 = x ^^^ y) := hx
        clear hx hx1 hy1 hz1 hheap hc1 hc2
        go_wp2
        go_region
        all_goals go_wp2
        all_goals go_roundw
        case rel =>
          refine ⟨k + 1, by omega, by go_num, (hbel.setCell (Nat.le_refl _) _).drew, ?_⟩
          show (wr.setCell _ _).heap[w.heap.size]? = _
          rw [heap_setCell_same wr _ _ _ _ _ HH.out, xor_u8, ← HX.out, List.setIfInBounds_toArray, part_set _ _ (by omega)]
        case measure => simp [intOf]; omega
      · go_wp2
        go_ret
        have : k = xs.length := by omega
        subst this
        refine ⟨_, rfl, ⟨by omega, w.heap.size, Nat.le_refl _, by rw [hlen]; rfl, ?_⟩, hbel⟩
        rw [HH.out, ← hlen, part_all]
  · -- the second row is the shorter one
    have hlen : (xors xs ys).length = ys.length := by rw [length_xors]; omega
    have hmk := fun w => make_any ys.length (by omega) w
    have hle' : ¬ ((xs.length : Int) ≤ ys.length) := by omega
    go_enter Try.func33, Try.ntmps33
    go_wp2
    have hr1 : Hid (xs.length = 0 ∨ ∃ b off : Nat, a = some ⟨b, off, none⟩ ∧ ∀ i, i < xs.length → w.cell? ⟨b, off + i, none⟩ = some (.int .u8 ((xs.getD i 0).toNat : Int))) := hr
    have hr2 : Hid (ys.length = 0 ∨ ∃ b off : Nat, a' = some ⟨b, off, none⟩ ∧ ∀ i, i < ys.length → w.cell? ⟨b, off + i, none⟩ = some (.int .u8 ((ys.getD i 0).toNat : Int))) := hr'
    clear hr hr' hmk
    go_loopw [15] (fun i wr => ∃ k : Nat, k ≤ ys.length ∧ i = .int .i64 k ∧ Below w.heap.size w wr ∧ wr.heap[w.heap.size]? = some (.cells (bcells (part (xors xs ys) k)).toArray 5 (0, 0))) (fun i _ => ys.length - (intOf i).toNat)
    case atStart => exact ⟨0, Nat.zero_le _, rfl, below_alloc (Below.refl _ _) _, by rw [part_zero, hlen]; exact heap_alloc_new _ _⟩
    case round =>
      rename_i wr
      obtain ⟨k, hk, rfl, hbel, hheap⟩ := hrel
      have HH : Hid (wr.heap[w.heap.size]? = some (.cells (bcells (part (xors xs ys) k)).toArray 5 (0, 0))) := hheap
      by_cases hlt : k < ys.length
      · rcases hr1.out with h | ⟨b1, o1, rfl, hc1⟩
        · omega
        rcases hr2.out with h | ⟨b2, o2, rfl, hc2⟩
        · omega
        have hx := xors_get xs ys k (by omega)
        have e1 : wr.cell? ⟨b1, o1 + k, none⟩ = some (.int .u8 ((xs.getD k 0).toNat : Int)) := later hbel (hc1 k (by omega))
        have e2 : wr.cell? ⟨b2, o2 + k, none⟩ = some (.int .u8 ((ys.getD k 0).toNat : Int)) := later hbel (hc2 k (by omega))
        obtain ⟨x, hx1⟩ : ∃ x, x = xs.getD k 0 := ⟨_, rfl⟩
        obtain ⟨y, hy1⟩ : ∃ y, y = ys.getD k 0 := ⟨_, rfl⟩
        rw [← hx1] at e1 hx
        rw [← hy1] at e2 hx
        have e3 : wr.cell? ⟨w.heap.size, k, none⟩ = some (.int .u8 (((part (xors xs ys) k).getD k 0).toNat : Int)) := by
          rw [cell_of_row wr _ _ _ _ _ hheap]; simpa using bcells_get (part (xors xs ys) k) k (by rw [length_part _ _ (by omega)]; omega)
        obtain ⟨z, hz1⟩ : ∃ z, z = (part (xors xs ys) k).getD k 0 := ⟨_, rfl⟩
        rw [← hz1] at e3
        have e4 : wr.frozen? ⟨w.heap.size, k, none⟩ = false := frozen_of_row wr _ _ _ _ hheap
        have i1 : (k : Int) < xs.length := by omega
        have i2 : (k : Int) < ys.length := by omega
        have HX : Hid ((xors xs ys).getD k 0 = x ^^^ y) := hx
        clear hx hx1 hy1 hz1 hheap hc1 hc2
        go_wp2
        go_region
        all_goals go_wp2
        all_goals go_roundw
        case rel =>
          refine ⟨k + 1, by omega, by go_num, (hbel.setCell (Nat.le_refl _) _).drew, ?_⟩
          show (wr.setCell _ _).heap[w.heap.size]? = _
          rw [heap_setCell_same wr _ _ _ _ _ HH.out, xor_u8, ← HX.out, List.setIfInBounds_toArray, part_set _ _ (by omega)]
        case measure => simp [intOf]; omega
      · go_wp2
        go_ret
        have : k = ys.length := by omega
        subst this
        refine ⟨_, rfl, ⟨by omega, w.heap.size, Nat.le_refl _, by rw [hlen]; rfl, ?_⟩, hbel⟩
        rw [HH.out, ← hlen, part_all]
theorem or_u8_zero (a b : UInt8) : (bits .or .u8 ((a.toNat : Nat) : Int) ((b.toNat : Nat) : Int)) = (((a ||| b).toNat : Nat) : Int) := by
  have ha := UInt8.toNat_lt a
  have hb := UInt8.toNat_lt b
  rw [(bits_nat .u8 8 (by decide) wraps_u8 _ _ ha hb).2, UInt8.toNat_or]
/-- What is gathered of two rows that differ. -/
def gather (a b : List UInt8) : Nat → UInt8
  | 0 => 0
  | k + 1 => gather a b k ||| (a.getD k 0 ^^^ b.getD k 0)
theorem gather_zero (a b : List UInt8) : ∀ k, gather a b k = 0 ↔ ∀ i, i < k → a.getD i 0 = b.getD i 0
  | 0 => by simp [gather]
  | k + 1 => by
    have h := gather_zero a b k
    rw [gather, UInt8.or_eq_zero_iff, h]
    constructor
    · rintro ⟨h1, h2⟩ i hi
      by_cases e : i = k
      · subst e; exact UInt8.xor_eq_zero_iff.1 h2
      · exact h1 i (by omega)
    · intro h1
      exact ⟨fun i hi => h1 i (by omega), UInt8.xor_eq_zero_iff.2 (h1 k (by omega))⟩
theorem gather_all (a b : List UInt8) (h : a.length = b.length) : gather a b a.length = 0 ↔ a = b := by
  rw [gather_zero]
  constructor
  · intro h1
    apply List.ext_getElem h
    intro i h2 h3
    have := h1 i h2
    simpa [h2, h3] using this
  · rintro rfl i _; rfl

theorem same_len (u v : Value) (xs ys : List UInt8) (w : World) (hu : IsB w u xs) (hv : IsB w v ys) (hne : xs.length ≠ ys.length) :
    Calls Try.prog 35 #[u, v] w fun e w' => e = .returned (.bool false) ∧ Below w.heap.size w w' := by
  obtain ⟨_, a, c, rfl, hr⟩ := hu
  obtain ⟨_, a', c', rfl, hr'⟩ := hv
  clear hr hr'
  have h1 : ((xs.length : Int) != ys.length) = true := by rw [bne_iff_ne]; omega
  go_enter Try.func35, Try.ntmps35
  go_wp2
  go_ret
  exact ⟨rfl, Below.refl _ _⟩
set_option maxHeartbeats 1600000 in
theorem same_eq (u v : Value) (xs ys : List UInt8) (w : World) (hu : IsB w u xs) (hv : IsB w v ys) (he : xs.length = ys.length) :
    Calls Try.prog 35 #[u, v] w fun e w' => e = .returned (.bool (decide (xs = ys))) ∧ Below w.heap.size w w' := by
  obtain ⟨_, a, c, rfl, hr⟩ := hu
  obtain ⟨_, a', c', rfl, hr'⟩ := hv
  have h1 : ((xs.length : Int) != ys.length) = false := by simp; omega
  have hr1 : Hid (xs.length = 0 ∨ ∃ b off : Nat, a = some ⟨b, off, none⟩ ∧ ∀ i, i < xs.length → w.cell? ⟨b, off + i, none⟩ = some (.int .u8 ((xs.getD i 0).toNat : Int))) := hr
  have hr2 : Hid (ys.length = 0 ∨ ∃ b off : Nat, a' = some ⟨b, off, none⟩ ∧ ∀ i, i < ys.length → w.cell? ⟨b, off + i, none⟩ = some (.int .u8 ((ys.getD i 0).toNat : Int))) := hr'
  have HE : Hid (xs.length = ys.length) := he
  have hle1 : (xs.length : Int) ≤ ys.length := by omega
  have hle2 : (ys.length : Int) ≤ xs.length := by omega
  clear hr hr' he
  go_enter Try.func35, Try.ntmps35
  go_wp2
  go_loopw [5, 14] (fun s i wr => ∃ k : Nat, k ≤ xs.length ∧ i = .int .i64 k ∧ s = .int .u8 ((gather xs ys k).toNat : Int) ∧ Below w.heap.size w wr) (fun _ i _ => xs.length - (intOf i).toNat)
  case atStart => exact ⟨0, Nat.zero_le _, rfl, rfl, Below.refl _ _⟩
  case round =>
    rename_i wr
    obtain ⟨k, hk, rfl, rfl, hbel⟩ := hrel
    by_cases hlt : k < xs.length
    · rcases hr1.out with h | ⟨b1, o1, rfl, hc1⟩
      · omega
      rcases hr2.out with h | ⟨b2, o2, rfl, hc2⟩
      · omega
      have e1 : wr.cell? ⟨b1, o1 + k, none⟩ = some (.int .u8 ((xs.getD k 0).toNat : Int)) := later hbel (hc1 k (by omega))
      have e2 : wr.cell? ⟨b2, o2 + k, none⟩ = some (.int .u8 ((ys.getD k 0).toNat : Int)) := later hbel (hc2 k (by omega))
      have HG : Hid (gather xs ys (k + 1) = gather xs ys k ||| (xs.getD k 0 ^^^ ys.getD k 0)) := rfl
      obtain ⟨x, hx1⟩ : ∃ x, x = xs.getD k 0 := ⟨_, rfl⟩
      obtain ⟨y, hy1⟩ : ∃ y, y = ys.getD k 0 := ⟨_, rfl⟩
      rw [← hx1] at e1 HG
      rw [← hy1] at e2 HG
      have i1 : (k : Int) < xs.length := by omega
      have i2 : (k : Int) < ys.length := by omega
      clear hx1 hy1 hc1 hc2
      go_wp2
      go_quiet (fail)
      go_wp2
      go_roundw
      case rel => exact ⟨k + 1, by omega, by go_num, by rw [HG.out, xor_u8, or_u8_zero], by first | exact hbel | exact below_drewN hbel _⟩
      case measure => simp [intOf]; omega
    · go_wp2
      go_ret
      have : k = xs.length := by omega
      subst this
      refine ⟨?_, hbel⟩
      have hg := gather_all xs ys HE.out
      have e : (((gather xs ys xs.length).toNat : Int) == 0) = decide (xs = ys) := by
        by_cases hxy : xs = ys
        · rw [hg.2 hxy]; simp [hxy]
        · have hne : gather xs ys xs.length ≠ 0 := fun h => hxy (hg.1 h)
          have : (gather xs ys xs.length).toNat ≠ 0 := fun h => hne (UInt8.toNat_inj.1 h)
          simp [hxy]; omega
      exact congrArg (fun b => Ending.returned (.bool b)) e
theorem same_any (u v : Value) (xs ys : List UInt8) (w : World) (hu : IsB w u xs) (hv : IsB w v ys) :
    Calls Try.prog 35 #[u, v] w fun e w' => e = .returned (.bool (decide (xs = ys))) ∧ Below w.heap.size w w' := by
  by_cases h : xs.length = ys.length
  · exact same_eq u v xs ys w hu hv h
  · have : decide (xs = ys) = false := by
      rw [decide_eq_false_iff_not]; rintro rfl; exact h rfl
    rw [this]
    exact same_len u v xs ys w hu hv h
end Go.Proofs.Ytlcjkmgeaiclbaa
