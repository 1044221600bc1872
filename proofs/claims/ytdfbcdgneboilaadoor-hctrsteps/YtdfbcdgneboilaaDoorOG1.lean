/- Own: the plain notions of rows of bytes that the contracts of layer 1 speak of; plain mathematics of the field of 256 elements (no Go here, no statement is proved here).; the contracts of Double and Times of layer 2; products are linear in either place: plain mathematics (no Go here, no statement is proved here).; it is a field: plain mathematics (no Go here, no statement is proved here).; the contracts of Power and Inverse of layer 2 (no statement is proved here). -/
import Derived.Test.YtdfbcdgneboilaaDoorRows
import Derived.WalkKit
import Derived.ProofKit
import Derived.OpenShut
import Derived.Below
import Derived.Outline
import Derived.WalkLawsBesides
import Derived.WalkSpells
import Derived.BigQuiet
import Derived.Deep.QuietTactic
import Derived.Deep.RegionHeld3
import Derived.Laws.CopyOwn
import Derived.Laws.CopyRow
import Derived.Laws.Externs
import Derived.Deep.WholeRow
import Derived.WalkMore
import Derived.ScopeJumps
namespace Go.Proofs.YtdfbcdgneboilaaDoor
open Go.ChangeShapes Go.WideShapes Go.ChangeAt Go.RowKit
set_option maxRecDepth 20000

/-- A row of bytes in the world: the slice value v reads as bs. -/
def IsB (w : World) (v : Value) (bs : List UInt8) : Prop :=
  bs.length ≤ 9223372036854775807 ∧ ∃ (a : Option Addr) (cap : Nat), v = .slice a bs.length cap ∧ (bs.length = 0 ∨ ∃ b off : Nat, a = some ⟨b, off, none⟩ ∧ ∀ i, i < bs.length → w.cell? ⟨b, off + i, none⟩ = some (.int .u8 ((bs.getD i 0).toNat : Int)))

/-- The byte at a place, 0 where there is none. -/
def byteAt (bs : List UInt8) (j : Int) : Nat := if 0 ≤ j ∧ j < bs.length then (bs.getD j.toNat 0).toNat else 0
theorem byteAt_lt (bs : List UInt8) (j : Int) : byteAt bs j < 256 := by
  unfold byteAt; split
  · exact UInt8.toNat_lt _
  · omega
theorem byteAt_out (bs : List UInt8) (j : Int) (h : j < 0 ∨ (bs.length : Int) ≤ j) : byteAt bs j = 0 := by
  unfold byteAt; rw [if_neg (by omega)]
theorem byteAt_in (bs : List UInt8) (j : Int) (h : 0 ≤ j) (h' : j < bs.length) : byteAt bs j = (bs.getD j.toNat 0).toNat := by
  unfold byteAt; rw [if_pos ⟨h, h'⟩]

/-- So many bytes from a place on, the lowest first. -/
def num (bs : List UInt8) (a : Int) : Nat → Nat
  | 0 => 0
  | k + 1 => num bs a k + byteAt bs (a + k) * 2 ^ (8 * k)
theorem num_lt (bs : List UInt8) (a : Int) : ∀ k, num bs a k < 2 ^ (8 * k)
  | 0 => by simp [num]
  | k + 1 => by
    have h := num_lt bs a k
    have h2 := byteAt_lt bs (a + k)
    have e : 2 ^ (8 * (k + 1)) = 2 ^ (8 * k) * 256 := by rw [Nat.mul_add, Nat.pow_add]
    rw [num, e]
    have h3 : byteAt bs (a + k) * 2 ^ (8 * k) ≤ 255 * 2 ^ (8 * k) := Nat.mul_le_mul_right _ (by omega)
    omega
theorem num_congr {bs cs : List UInt8} {a b : Int} : ∀ {k : Nat}, (∀ i : Nat, i < k → byteAt bs (a + i) = byteAt cs (b + i)) → num bs a k = num cs b k
  | 0, _ => rfl
  | k + 1, h => by
    rw [num, num, num_congr (fun i hi => h i (by omega)), h k (by omega)]

theorem or_add (a b k : Nat) (h : a < 2 ^ k) : a ||| (b * 2 ^ k) = a + b * 2 ^ k := by
  rw [Nat.or_comm, Nat.mul_comm b, ← Nat.two_pow_add_eq_or_of_lt h]; omega

theorem addr_add (b off j : Nat) : (⟨b, off, none⟩ : Addr).add j = ⟨b, off + j, none⟩ := by
  unfold Addr.add; split <;> simp_all
theorem below_alloc {w w' : World} (h : Below w.heap.size w w') (o : Obj) : Below w.heap.size w (w'.alloc o) := h.alloc h.size o
theorem below_two {w w' w'' : World} (h : Below w.heap.size w w') (h' : Below w'.heap.size w' w'') : Below w.heap.size w w'' := h.trans (h'.mono h.size)
/-- What a region that draws its order keeps: nothing old has turned, and the blocks ahead of it hold what they held. -/
theorem held_keep {w W0 w1 w2 : World} {N : Nat} (h : Below w.heap.size w w1 ∧ N ≤ w1.heap.size ∧ ∀ b o, b < N → w1.cell? ⟨b, o, none⟩ = W0.cell? ⟨b, o, none⟩) (hb : Below w1.heap.size w1 w2) :
    Below w.heap.size w w2 ∧ N ≤ w2.heap.size ∧ ∀ b o, b < N → w2.cell? ⟨b, o, none⟩ = W0.cell? ⟨b, o, none⟩ :=
  ⟨below_two h.1 hb, Nat.le_trans h.2.1 hb.size, fun b o hlt => (hb.cell (p := ⟨b, o, none⟩) (Nat.lt_of_lt_of_le hlt h.2.1)).trans (h.2.2 b o hlt)⟩
theorem held_start {w W0 : World} {N : Nat} (h : Below w.heap.size w W0) (hN : N ≤ W0.heap.size) :
    Below w.heap.size w W0.drew ∧ N ≤ W0.drew.heap.size ∧ ∀ b o, b < N → W0.drew.cell? ⟨b, o, none⟩ = W0.cell? ⟨b, o, none⟩ :=
  ⟨h.drew, hN, fun _ _ _ => rfl⟩
theorem held_below {w W0 w1 : World} {N : Nat} (h : Below w.heap.size w w1 ∧ N ≤ w1.heap.size ∧ ∀ b o, b < N → w1.cell? ⟨b, o, none⟩ = W0.cell? ⟨b, o, none⟩) : Below w.heap.size w w1 := h.1
theorem own : ownKnob Tryd.prog.godebug = none := by kernel_rfl
theorem laidOut : laidOutB Tryd.prog = true := by kernel_rfl
theorem hide {p : Prop} (h : p) : Hid p := h
theorem ret_int {k : IntKind} {a b : Int} (h : a = b) : Ending.returned (.int k a) = .returned (.int k b) := by rw [h]
/-- Bytes, each as a cell. -/
def bcells (bs : List UInt8) : List Value := bs.map fun b => .int .u8 (b.toNat : Int)
theorem length_bcells (bs : List UInt8) : (bcells bs).length = bs.length := by simp [bcells]
theorem bcells_get (bs : List UInt8) (i : Nat) (h : i < bs.length) : (bcells bs)[i]? = some (.int .u8 ((bs.getD i 0).toNat : Int)) := by
  simp [bcells, h]
theorem bcells_one (bs : List UInt8) : ∀ v ∈ bcells bs, v.oneCell' = true := by
  intro v hv; obtain ⟨b, _, rfl⟩ := List.mem_map.1 hv; rfl
/-- A row of bytes that lies in a block of its own, from a base on: it may be written. -/
def OwnB (base : Nat) (w : World) (v : Value) (bs : List UInt8) : Prop :=
  bs.length ≤ 9223372036854775807 ∧ ∃ g, base ≤ g ∧ v = .slice (some ⟨g, 0, none⟩) bs.length bs.length ∧ w.heap[g]? = some (.cells (bcells bs).toArray 5 (0, 0))
theorem OwnB.isB {base : Nat} {w : World} {v : Value} {bs : List UInt8} (h : OwnB base w v bs) : IsB w v bs := by
  obtain ⟨h0, g, _, e, hg⟩ := h
  refine ⟨h0, _, _, e, .inr ⟨g, 0, rfl, fun i hi => ?_⟩⟩
  rw [cell_of_row w g _ _ _ _ hg]
  simpa using bcells_get bs i hi
theorem pow_step (b k m : Nat) (hb : b < 256) (hk : k < m) : b * 2 ^ (8 * k) < 2 ^ (8 * m) := by
  have h1 : b * 2 ^ (8 * k) < 2 ^ (8 * (k + 1)) := by
    have e : 2 ^ (8 * (k + 1)) = 256 * 2 ^ (8 * k) := by rw [Nat.mul_add, Nat.pow_add, Nat.mul_comm]
    rw [e]; exact Nat.mul_lt_mul_of_pos_right hb (Nat.two_pow_pos _)
  exact Nat.lt_of_lt_of_le h1 (Nat.pow_le_pow_right (by decide) (by omega))
theorem or_step32 (bs : List UInt8) (a : Int) (k : Nat) (hk : k < 4) :
    bits .or .u32 (num bs a k : Nat) (((byteAt bs (a + k) : Nat) : Int) % 4294967296 * 2 ^ (8 * k) % 4294967296) = (num bs a (k + 1) : Nat) := by
  have hb := byteAt_lt bs (a + k)
  have hlt : byteAt bs (a + k) * 2 ^ (8 * k) < 4294967296 := pow_step _ k 4 hb hk
  have hn := num_lt bs a k
  have hn' : num bs a k < 4294967296 := Nat.lt_of_lt_of_le hn (show 2 ^ (8 * k) ≤ 2 ^ 32 from Nat.pow_le_pow_right (by decide) (by omega))
  have h1 : ((byteAt bs (a + k) : Nat) : Int) % 4294967296 = (byteAt bs (a + k) : Nat) := by omega
  have h2 : ((byteAt bs (a + k) * 2 ^ (8 * k) : Nat) : Int) = ((byteAt bs (a + k) : Nat) : Int) * 2 ^ (8 * k) := by simp
  have h3 : ((byteAt bs (a + k) * 2 ^ (8 * k) : Nat) : Int) % 4294967296 = (byteAt bs (a + k) * 2 ^ (8 * k) : Nat) := by omega
  rw [h1, ← h2, h3, (bits_nat .u32 32 (by decide) (fun n h h' => by rw [IntKind.wrap_u32]; omega) _ _ hn' hlt).2, or_add _ _ _ hn]
  rfl
theorem or_step64 (bs : List UInt8) (a : Int) (k : Nat) (hk : k < 8) :
    bits .or .u64 (num bs a k : Nat) (((byteAt bs (a + k) : Nat) : Int) % 18446744073709551616 * 2 ^ (8 * k) % 18446744073709551616) = (num bs a (k + 1) : Nat) := by
  have hb := byteAt_lt bs (a + k)
  have hlt : byteAt bs (a + k) * 2 ^ (8 * k) < 18446744073709551616 := pow_step _ k 8 hb hk
  have hn := num_lt bs a k
  have hn' : num bs a k < 18446744073709551616 := Nat.lt_of_lt_of_le hn (show 2 ^ (8 * k) ≤ 2 ^ 64 from Nat.pow_le_pow_right (by decide) (by omega))
  have h1 : ((byteAt bs (a + k) : Nat) : Int) % 18446744073709551616 = (byteAt bs (a + k) : Nat) := by omega
  have h2 : ((byteAt bs (a + k) * 2 ^ (8 * k) : Nat) : Int) = ((byteAt bs (a + k) : Nat) : Int) * 2 ^ (8 * k) := by simp
  have h3 : ((byteAt bs (a + k) * 2 ^ (8 * k) : Nat) : Int) % 18446744073709551616 = (byteAt bs (a + k) * 2 ^ (8 * k) : Nat) := by omega
  rw [h1, ← h2, h3, bits_or_u64_nat _ _ hn' hlt, or_add _ _ _ hn]
  rfl

theorem later {w w' : World} {a : Addr} {v : Value} (hb : Below w.heap.size w w') (h : w.cell? a = some v) : w'.cell? a = some v :=
  (hb.cell (World.block_lt_of_cell? _ _ h)).trans h
theorem IsB.later {w w' : World} {v : Value} {bs : List UInt8} (hb : Below w.heap.size w w') (h : IsB w v bs) : IsB w' v bs := by
  obtain ⟨h0, a, cap, e, h1⟩ := h
  refine ⟨h0, a, cap, e, ?_⟩
  rcases h1 with h1 | ⟨b, off, ea, hc⟩
  · exact .inl h1
  · exact .inr ⟨b, off, ea, fun i hi => Go.Proofs.YtdfbcdgneboilaaDoor.later hb (hc i hi)⟩

end Go.Proofs.YtdfbcdgneboilaaDoor
namespace Go.Proofs.YtdfbcdgneboilaaDoor

/-- The product with x. -/
def dbl (a : Nat) : Nat := if a.testBit 7 then (2 * a % 256) ^^^ 27 else 2 * a % 256
/-- A product, added up bit by bit. -/
def tl : Nat → Nat → Nat → Nat → Nat
  | 0, _, _, s => s
  | n + 1, a, b, s => tl n (dbl a) (b / 2) (if b % 2 = 1 then s ^^^ a else s)
def times (a b : Nat) : Nat := tl 8 a b 0
/-- A power, by squares. -/
def pl : Nat → Nat → Nat → Nat → Nat
  | 0, _, _, p => p
  | k + 1, a, n, p => pl k (times a a) (n / 2) (if n % 2 = 1 then times p a else p)
def pow (a n : Nat) : Nat := pl 63 a n 1

theorem xor_lt (a b : Nat) (ha : a < 256) (hb : b < 256) : a ^^^ b < 256 := Nat.xor_lt_two_pow (n := 8) ha hb
theorem dbl_lt (a : Nat) : dbl a < 256 := by
  unfold dbl; split
  · exact xor_lt _ _ (Nat.mod_lt _ (by decide)) (by decide)
  · exact Nat.mod_lt _ (by decide)
theorem tl_zero : ∀ n a s, tl n a 0 s = s
  | 0, _, _ => rfl
  | n + 1, a, s => by rw [tl]; simpa using tl_zero n (dbl a) s
theorem tl_lt : ∀ n a b s, a < 256 → s < 256 → tl n a b s < 256
  | 0, _, _, _, _, h => h
  | n + 1, a, b, s, ha, hs => by
    rw [tl]
    refine tl_lt n _ _ _ (dbl_lt a) ?_
    split
    · exact xor_lt _ _ hs ha
    · exact hs
theorem times_lt (a b : Nat) (ha : a < 256) : times a b < 256 := tl_lt 8 a b 0 ha (by decide)
theorem pl_zero : ∀ n a p, pl n a 0 p = p
  | 0, _, _ => rfl
  | n + 1, a, p => by rw [pl]; simpa using pl_zero n (times a a) p

/-! Linear in either place. -/
theorem dbl_xor : ∀ a, a < 256 → ∀ b, b < 256 → dbl (a ^^^ b) = dbl a ^^^ dbl b := by decide +kernel
end Go.Proofs.YtdfbcdgneboilaaDoor
namespace Go.Proofs.YtdfbcdgneboilaaDoor
open Go.ChangeShapes Go.WideShapes Go.ChangeAt Go.RowKit
set_option maxRecDepth 20000

theorem xor_u8 (a b : Nat) (ha : a < 256) (hb : b < 256) : bits .xor .u8 (a : Int) (b : Int) = ((a ^^^ b : Nat) : Int) := by
  have hx : a ^^^ b < 2 ^ 8 := Nat.xor_lt_two_pow (by omega) (by omega)
  have h1 : (BitVec.ofInt 8 (a : Int)).toNat = a := by
    rw [BitVec.ofInt_natCast, BitVec.toNat_ofNat]; exact Nat.mod_eq_of_lt (by omega)
  have h2 : (BitVec.ofInt 8 (b : Int)).toNat = b := by
    rw [BitVec.ofInt_natCast, BitVec.toNat_ofNat]; exact Nat.mod_eq_of_lt (by omega)
  show IntKind.u8.wrap ((BitVec.ofInt 8 (a : Int) ^^^ BitVec.ofInt 8 (b : Int)).toNat : Int) = _
  rw [BitVec.toNat_xor, h1, h2, IntKind.wrap_u8]
  omega
theorem and_u8 (a b : Nat) (ha : a < 256) (hb : b < 256) : bits .and .u8 (a : Int) (b : Int) = ((a &&& b : Nat) : Int) := (bits_nat .u8 8 (by decide) wraps_u8 _ _ ha hb).1

theorem double_hi (a : Nat) (_ha : a < 256) (h : (bits .and .u8 (a : Int) 128 != 0) = true) (w : World) :
    Calls Tryd.prog 63 #[.int .u8 a] w fun e w' => e = .returned (.int .u8 (bits .xor .u8 ((a : Int) * 2 % 256) 27)) ∧ w' = w := by
  go_enter Tryd.func63, Tryd.ntmps63
  go_wp2
  go_ret
  exact ⟨rfl, rfl⟩
theorem double_lo (a : Nat) (_ha : a < 256) (h : (bits .and .u8 (a : Int) 128 != 0) = false) (w : World) :
    Calls Tryd.prog 63 #[.int .u8 a] w fun e w' => e = .returned (.int .u8 ((a : Int) * 2 % 256)) ∧ w' = w := by
  go_enter Tryd.func63, Tryd.ntmps63
  go_wp2
  go_ret
  exact ⟨rfl, rfl⟩
theorem and_128 : ∀ a, a < 256 → (a &&& 128 = if a.testBit 7 then 128 else 0) := by decide +kernel
theorem double_any (a : Nat) (ha : a < 256) (w : World) :
    Calls Tryd.prog 63 #[.int .u8 a] w fun e w' => e = .returned (.int .u8 (dbl a : Nat)) ∧ w' = w := by
  have e1 := and_u8 a 128 ha (by decide)
  have e2 := and_128 a ha
  have e3 : ((a : Int) * 2 % 256) = ((2 * a % 256 : Nat) : Int) := by omega
  unfold dbl
  by_cases h : a.testBit 7 = true
  · rw [if_pos h] at e2 ⊢
    have e4 := xor_u8 (2 * a % 256) 27 (Nat.mod_lt _ (by decide)) (by decide)
    rw [← e4, ← e3]
    exact double_hi a ha (by rw [show (128 : Int) = ((128 : Nat) : Int) from rfl, e1, e2]; decide) w
  · rw [if_neg h] at e2 ⊢
    rw [← e3]
    exact double_lo a ha (by rw [show (128 : Int) = ((128 : Nat) : Int) from rfl, e1, e2]; decide) w

theorem and_one : ∀ b, b < 256 → (b &&& 1 = b % 2) := by decide +kernel
theorem odd_u8 (b : Nat) (hb : b < 256) : (bits .and .u8 (b : Int) 1 != 0) = decide (b % 2 = 1) := by
  have e1 := and_u8 b 1 hb (by decide)
  rw [show (1 : Int) = ((1 : Nat) : Int) from rfl, e1, and_one b hb]
  rcases Nat.mod_two_eq_zero_or_one b with h | h <;> rw [h] <;> decide

theorem tl_pass (n x y s T : Nat) (hx : x < 256) (hs : s < 256) (hy : y < 2 ^ (n + 1)) (ht : tl (n + 1) x y s = T) :
    (y / 2 = 0 → (if y % 2 = 1 then s ^^^ x else s) = T) ∧ (y / 2 ≠ 0 → ∃ m, y / 2 < 2 ^ (m + 1) ∧ tl (m + 1) (dbl x) (y / 2) (if y % 2 = 1 then s ^^^ x else s) = T) ∧ (if y % 2 = 1 then s ^^^ x else s) < 256 := by
  rw [tl] at ht
  refine ⟨fun h => ?_, fun h => ?_, ?_⟩
  · rw [h, tl_zero] at ht; exact ht
  · cases n with
    | zero => simp at hy; omega
    | succ m => exact ⟨m, by rw [Nat.pow_succ] at hy; omega, ht⟩
  · split
    · exact xor_lt _ _ hs hx
    · exact hs
set_option maxHeartbeats 1600000 in
set_option maxRecDepth 1000000 in
theorem times_any (a b : Nat) (ha : a < 256) (hb : b < 256) (w : World) :
    Calls Tryd.prog 43 #[.int .u8 a, .int .u8 b] w fun e w' => e = .returned (.int .u8 (times a b : Nat)) ∧ w' = w := by
  go_enter Tryd.func43, Tryd.ntmps43
  go_wp2
  refine wp_scope_jumps 0 (fun a' w' => w' = w ∧ ∃ (n x y s : Nat) (u6 u7 u8 u9 u10 u11 u12 u13 u14 u15 u16 u17 u18 : Value), a' = { tmps := #[.int .u8 x, .int .u8 y, undef, undef, .int .u8 0, .int .u8 s, u6, u7, u8, u9, u10, u11, u12, u13, u14, u15, u16, u17, u18], defers := [] } ∧ x < 256 ∧ y < 256 ∧ s < 256 ∧ y < 2 ^ (n + 1) ∧ tl (n + 1) x y s = times a b) (fun a' _ => (intOf (a'.tmps.getD 1 undef)).toNat) rfl ?_ ?_
  · have hp := tl_pass 7 a b 0 (times a b) ha (by decide) hb rfl
    have hm : (bits .and .u8 (b : Int) 1 != 0) = decide (b % 2 = 1) := odd_u8 b hb
    by_cases ho : b % 2 = 1
    · have hm' : (bits .and .u8 (b : Int) 1 != 0) = true := by rw [hm]; simpa using ho
      have hxr : Hid (bits .xor .u8 0 (a : Int) = ((0 ^^^ a : Nat) : Int)) := xor_u8 0 a (by decide) ha
      clear hm
      rw [if_pos ho] at hp
      have HP := hide hp
      clear hp
      by_cases hz : b / 2 = 0
      · have hz' : ((b : Int) / 2 != 0) = false := by simp; omega
        go_wp2
        go_step3
        go_wp2_with (go_at_call 63; refine (double_any _ ha _).mono ?_; rintro e w' ⟨rfl, rfl⟩)
        simp only [Exit.jump]
        go_ret
        refine ⟨ret_int ?_, rfl⟩
        rw [← HP.out.1 hz]; exact hxr.out
      · have hz' : ((b : Int) / 2 != 0) = true := by rw [bne_iff_ne]; omega
        obtain ⟨m, hm1, hm2⟩ := HP.out.2.1 hz
        have HM := hide hm2
        clear hm2
        go_wp2
        go_step3
        go_wp2_with (go_at_call 63; refine (double_any _ ha _).mono ?_; rintro e w' ⟨rfl, rfl⟩)
        go_step3
        rw [hxr.out]
        first | exact ⟨rfl, rfl, m, dbl a, b / 2, 0 ^^^ a, _, _, _, _, _, _, _, _, _, _, _, _, _, rfl, dbl_lt a, by omega, HP.out.2.2, hm1, HM.out⟩ | exact ⟨rfl, rfl, m, dbl a, b / 2, 0 ^^^ a, ⟨_, _, _, _, _, _, _, _, _, _, _, _, _, rfl⟩, dbl_lt a, by omega, HP.out.2.2, hm1, HM.out⟩
    · have hm' : (bits .and .u8 (b : Int) 1 != 0) = false := by rw [hm]; simpa using ho
      clear hm
      rw [if_neg ho] at hp
      have HP := hide hp
      clear hp
      by_cases hz : b / 2 = 0
      · have hz' : ((b : Int) / 2 != 0) = false := by simp; omega
        go_wp2
        go_step3
        go_wp2_with (go_at_call 63; refine (double_any _ ha _).mono ?_; rintro e w' ⟨rfl, rfl⟩)
        simp only [Exit.jump]
        go_ret
        refine ⟨ret_int ?_, rfl⟩
        have := HP.out.1 hz; omega
      · have hz' : ((b : Int) / 2 != 0) = true := by rw [bne_iff_ne]; omega
        obtain ⟨m, hm1, hm2⟩ := HP.out.2.1 hz
        have HM := hide hm2
        clear hm2
        go_wp2
        go_step3
        go_wp2_with (go_at_call 63; refine (double_any _ ha _).mono ?_; rintro e w' ⟨rfl, rfl⟩)
        go_step3
        first | exact ⟨rfl, rfl, m, dbl a, b / 2, 0, _, _, _, _, _, _, _, _, _, _, _, _, _, rfl, dbl_lt a, by omega, HP.out.2.2, hm1, HM.out⟩ | exact ⟨rfl, rfl, m, dbl a, b / 2, 0, ⟨_, _, _, _, _, _, _, _, _, _, _, _, _, rfl⟩, dbl_lt a, by omega, HP.out.2.2, hm1, HM.out⟩
  · rintro a' w' ⟨rfl, n, x, y, s, u6, u7, u8, u9, u10, u11, u12, u13, u14, u15, u16, u17, u18, rfl, hx, hy, hs, hn, ht⟩
    have hp := tl_pass n x y s (times a b) hx hs hn ht
    clear ht
    have hm : (bits .and .u8 (y : Int) 1 != 0) = decide (y % 2 = 1) := odd_u8 y hy
    by_cases ho : y % 2 = 1
    · have hm' : (bits .and .u8 (y : Int) 1 != 0) = true := by rw [hm]; simpa using ho
      have hxr : Hid (bits .xor .u8 (s : Int) (x : Int) = ((s ^^^ x : Nat) : Int)) := xor_u8 s x hs hx
      clear hm
      rw [if_pos ho] at hp
      have HP := hide hp
      clear hp
      by_cases hz : y / 2 = 0
      · have hz' : ((y : Int) / 2 != 0) = false := by simp; omega
        go_wp2_with (go_at_call 63; refine (double_any _ hx _).mono ?_; rintro e w' ⟨rfl, rfl⟩)
        simp only [Exit.jump]
        go_ret
        refine ⟨ret_int ?_, rfl⟩
        rw [← HP.out.1 hz]; exact hxr.out
      · have hz' : ((y : Int) / 2 != 0) = true := by rw [bne_iff_ne]; omega
        obtain ⟨m, hm1, hm2⟩ := HP.out.2.1 hz
        have HM := hide hm2
        clear hm2
        go_wp2_with (go_at_call 63; refine (double_any _ hx _).mono ?_; rintro e w' ⟨rfl, rfl⟩)
        go_step3
        rw [hxr.out]
        refine ⟨rfl, ?_, ?_⟩
        · first | exact ⟨rfl, m, dbl x, y / 2, s ^^^ x, _, _, _, _, _, _, _, _, _, _, _, _, _, rfl, dbl_lt x, by omega, HP.out.2.2, hm1, HM.out⟩ | exact ⟨rfl, m, dbl x, y / 2, s ^^^ x, ⟨_, _, _, _, _, _, _, _, _, _, _, _, _, rfl⟩, dbl_lt x, by omega, HP.out.2.2, hm1, HM.out⟩
        · simp [intOf]; omega
    · have hm' : (bits .and .u8 (y : Int) 1 != 0) = false := by rw [hm]; simpa using ho
      clear hm
      rw [if_neg ho] at hp
      have HP := hide hp
      clear hp
      by_cases hz : y / 2 = 0
      · have hz' : ((y : Int) / 2 != 0) = false := by simp; omega
        go_wp2_with (go_at_call 63; refine (double_any _ hx _).mono ?_; rintro e w' ⟨rfl, rfl⟩)
        simp only [Exit.jump]
        go_ret
        refine ⟨ret_int ?_, rfl⟩
        have := HP.out.1 hz; omega
      · have hz' : ((y : Int) / 2 != 0) = true := by rw [bne_iff_ne]; omega
        obtain ⟨m, hm1, hm2⟩ := HP.out.2.1 hz
        have HM := hide hm2
        clear hm2
        go_wp2_with (go_at_call 63; refine (double_any _ hx _).mono ?_; rintro e w' ⟨rfl, rfl⟩)
        go_step3
        refine ⟨rfl, ?_, ?_⟩
        · first | exact ⟨rfl, m, dbl x, y / 2, s, _, _, _, _, _, _, _, _, _, _, _, _, _, rfl, dbl_lt x, by omega, HP.out.2.2, hm1, HM.out⟩ | exact ⟨rfl, m, dbl x, y / 2, s, ⟨_, _, _, _, _, _, _, _, _, _, _, _, _, rfl⟩, dbl_lt x, by omega, HP.out.2.2, hm1, HM.out⟩
        · simp [intOf]; omega
end Go.Proofs.YtdfbcdgneboilaaDoor
namespace Go.Proofs.YtdfbcdgneboilaaDoor
theorem tl_acc : ∀ n a b s t, tl n a b (s ^^^ t) = tl n a b s ^^^ t
  | 0, _, _, _, _ => rfl
  | n + 1, a, b, s, t => by
    rw [tl, tl, ← tl_acc n]
    congr 1
    split
    · rw [Nat.xor_assoc, Nat.xor_comm t a, Nat.xor_assoc]
    · rfl
theorem tl_left : ∀ n a a' b s, a < 256 → a' < 256 → tl n (a ^^^ a') b s = tl n a b s ^^^ tl n a' b 0
  | 0, _, _, _, s, _, _ => by simp [tl]
  | n + 1, a, a', b, s, ha, ha' => by
    rw [tl, tl, tl, dbl_xor a ha a' ha']
    by_cases h : b % 2 = 1
    · rw [if_pos h, if_pos h, if_pos h, tl_left n _ _ _ _ (dbl_lt a) (dbl_lt a'), Nat.zero_xor, ← Nat.xor_assoc, tl_acc n (dbl a) (b / 2) (s ^^^ a) a']
      have := tl_acc n (dbl a') (b / 2) 0 a'
      rw [Nat.zero_xor] at this
      rw [this]
      rw [Nat.xor_assoc, Nat.xor_comm a']
    · rw [if_neg h, if_neg h, if_neg h, tl_left n _ _ _ _ (dbl_lt a) (dbl_lt a')]
theorem times_left (a a' b : Nat) (ha : a < 256) (ha' : a' < 256) : times (a ^^^ a') b = times a b ^^^ times a' b := tl_left 8 a a' b 0 ha ha'
theorem half_xor (b b' : Nat) : (b ^^^ b') / 2 = (b / 2) ^^^ (b' / 2) := Nat.xor_div_two
theorem odd_xor (b b' : Nat) : (b ^^^ b') % 2 = 1 ↔ ¬ (b % 2 = 1 ↔ b' % 2 = 1) := by
  rw [Nat.xor_mod_two_eq_one]
theorem tl_right : ∀ n a b b' s, tl n a (b ^^^ b') s = tl n a b s ^^^ tl n a b' 0
  | 0, _, _, _, s => by simp [tl]
  | n + 1, a, b, b', s => by
    rw [tl, tl, tl, half_xor, tl_right n]
    have o := odd_xor b b'
    have t1 := fun x => tl_acc n (dbl a) (b / 2) x a
    have t2 := tl_acc n (dbl a) (b' / 2) 0 a
    rw [Nat.zero_xor] at t2
    by_cases h : b % 2 = 1 <;> by_cases h' : b' % 2 = 1
    · rw [if_neg (by rw [o]; simp [h, h']), if_pos h, if_pos h', t1, Nat.zero_xor, t2, Nat.xor_assoc, Nat.xor_comm a, Nat.xor_assoc, Nat.xor_self, Nat.xor_zero]
    · rw [if_pos (by rw [o]; simp [h, h']), if_pos h, if_neg h']
    · rw [if_pos (by rw [o]; simp [h, h']), if_neg h, if_pos h', t1, Nat.zero_xor, t2, Nat.xor_assoc, Nat.xor_comm a]
    · rw [if_neg (by rw [o]; simp [h, h']), if_neg h, if_neg h']
theorem times_right (a b b' : Nat) : times a (b ^^^ b') = times a b ^^^ times a b' := tl_right 8 a b b' 0
end Go.Proofs.YtdfbcdgneboilaaDoor
namespace Go.Proofs.YtdfbcdgneboilaaDoor

theorem two_pow_xor : ∀ k, k < 8 → ∀ r, r < 2 ^ k → 2 ^ k ^^^ r = 2 ^ k + r := by decide +kernel
/-- What holds of 0, of the eight powers of 2, and of every exclusive or of two of which it holds, holds of every byte. -/
theorem span {P : Nat → Prop} (h0 : P 0) (hb : ∀ i, i < 8 → P (2 ^ i)) (hx : ∀ a b, a < 256 → b < 256 → P a → P b → P (a ^^^ b)) (a : Nat) (ha : a < 256) : P a := by
  have key : ∀ k, k ≤ 8 → ∀ a, a < 2 ^ k → P a := by
    intro k
    induction k with
    | zero => intro _ a ha; obtain rfl : a = 0 := by simpa using ha
              exact h0
    | succ k ih =>
      intro hk a ha
      by_cases h : a < 2 ^ k
      · exact ih (by omega) a h
      · have e := two_pow_xor k (by omega) (a - 2 ^ k) (by rw [Nat.pow_succ] at ha; omega)
        have e' : a = 2 ^ k ^^^ (a - 2 ^ k) := by rw [e]; omega
        have hp : 2 ^ (k + 1) ≤ 2 ^ 8 := Nat.pow_le_pow_right (by decide) hk
        rw [e']
        have hpk : 2 ^ (k + 1) = 2 ^ k * 2 := Nat.pow_succ ..
        exact hx _ _ (by omega) (by omega) (hb k (by omega)) (ih (by omega) _ (by omega))
  exact key 8 (Nat.le_refl _) a ha

theorem times_zero (a : Nat) : times a 0 = 0 := tl_zero 8 a 0
theorem tl_none : ∀ n b, tl n 0 b 0 = 0
  | 0, _ => rfl
  | n + 1, b => by
    have h : dbl 0 = 0 := by decide
    rw [tl, h]; simp [tl_none n]
theorem zero_times (b : Nat) : times 0 b = 0 := tl_none 8 b
theorem basis_lt (i : Nat) (h : i < 8) : 2 ^ i < 256 := Nat.pow_lt_pow_right (a := 2) (m := i) (n := 8) (by decide) h

theorem comm_basis : ∀ i, i < 8 → ∀ j, j < 8 → times (2 ^ i) (2 ^ j) = times (2 ^ j) (2 ^ i) := by decide +kernel
theorem times_comm (a b : Nat) (ha : a < 256) (hb : b < 256) : times a b = times b a := by
  refine span (P := fun a => ∀ b, b < 256 → times a b = times b a) ?_ ?_ ?_ a ha b hb
  · intro b _; rw [zero_times, times_zero]
  · intro i hi b hb
    refine span (P := fun b => times (2 ^ i) b = times b (2 ^ i)) ?_ ?_ ?_ b hb
    · rw [zero_times, times_zero]
    · intro j hj; exact comm_basis i hi j hj
    · intro x y hx hy h1 h2; rw [times_right, times_left _ _ _ hx hy, h1, h2]
  · intro x y hx hy h1 h2 b hb; rw [times_left _ _ _ hx hy, times_right, h1 b hb, h2 b hb]
theorem assoc_basis : ∀ i, i < 8 → ∀ j, j < 8 → ∀ k, k < 8 → times (times (2 ^ i) (2 ^ j)) (2 ^ k) = times (2 ^ i) (times (2 ^ j) (2 ^ k)) := by decide +kernel
theorem times_assoc (a b c : Nat) (ha : a < 256) (hb : b < 256) (hc : c < 256) : times (times a b) c = times a (times b c) := by
  refine span (P := fun a => ∀ b, b < 256 → ∀ c, c < 256 → times (times a b) c = times a (times b c)) ?_ ?_ ?_ a ha b hb c hc
  · intro b _ c _; rw [zero_times, zero_times, zero_times]
  · intro i hi b hb
    refine span (P := fun b => ∀ c, c < 256 → times (times (2 ^ i) b) c = times (2 ^ i) (times b c)) ?_ ?_ ?_ b hb
    · intro c _; rw [times_zero, zero_times, times_zero]
    · intro j hj c hc
      refine span (P := fun c => times (times (2 ^ i) (2 ^ j)) c = times (2 ^ i) (times (2 ^ j) c)) ?_ ?_ ?_ c hc
      · rw [times_zero, times_zero, times_zero]
      · intro k hk; exact assoc_basis i hi j hj k hk
      · intro x y _ _ h1 h2; rw [times_right, times_right, times_right, h1, h2]
    · intro x y hx hy h1 h2 c hc
      have l := basis_lt i hi
      rw [times_right, times_left _ _ _ (times_lt _ _ l) (times_lt _ _ l), times_left _ _ _ hx hy, times_right, h1 c hc, h2 c hc]
  · intro x y hx hy h1 h2 b hb c hc
    rw [times_left _ _ _ hx hy, times_left _ _ _ (times_lt _ _ hx) (times_lt _ _ hy), times_left _ _ _ hx hy, h1 b hb c hc, h2 b hb c hc]
theorem times_one : ∀ a, a < 256 → times a 1 = a := by decide +kernel
theorem one_times (a : Nat) (h : a < 256) : times 1 a = a := by rw [times_comm 1 a (by decide) h, times_one a h]

/-! Powers. -/
def pw (a : Nat) : Nat → Nat
  | 0 => 1
  | n + 1 => times (pw a n) a
theorem pw_lt (a : Nat) (ha : a < 256) : ∀ n, pw a n < 256
  | 0 => by simp [pw]
  | n + 1 => times_lt _ _ (pw_lt a ha n)
theorem pw_add (a : Nat) (ha : a < 256) (n : Nat) : ∀ m, pw a (n + m) = times (pw a n) (pw a m)
  | 0 => by rw [pw, times_one _ (pw_lt a ha n)]; rfl
  | m + 1 => by
    rw [← Nat.add_assoc, pw, pw, pw_add a ha n m, times_assoc _ _ _ (pw_lt a ha n) (pw_lt a ha m) ha]
theorem pw_one (a : Nat) (ha : a < 256) : pw a 1 = a := by rw [pw, pw, one_times a ha]
theorem pw_square (a : Nat) (ha : a < 256) : ∀ n, pw (times a a) n = pw a (2 * n)
  | 0 => rfl
  | n + 1 => by
    have e : 2 * (n + 1) = 2 * n + 1 + 1 := by omega
    rw [e, pw, pw, pw, pw_square a ha n, times_assoc _ _ _ (pw_lt a ha _) ha ha]
theorem pl_eq : ∀ k a n p, a < 256 → p < 256 → n < 2 ^ k → pl k a n p = times p (pw a n)
  | 0, a, n, p, _, hp, hn => by
    obtain rfl : n = 0 := by simpa using hn
    rw [pl, pw, times_one p hp]
  | k + 1, a, n, p, ha, hp, hn => by
    have hn' : n / 2 < 2 ^ k := by rw [Nat.pow_succ] at hn; omega
    rw [pl]
    by_cases h : n % 2 = 1
    · rw [if_pos h, pl_eq k _ _ _ (times_lt _ _ ha) (times_lt _ _ hp) hn', pw_square a ha, times_assoc _ _ _ hp ha (pw_lt a ha _)]
      have e : n = 1 + 2 * (n / 2) := by omega
      have e2 : pw a n = times a (pw a (2 * (n / 2))) := by
        have := pw_add a ha 1 (2 * (n / 2))
        rw [← e, pw_one a ha] at this
        exact this
      rw [e2]
    · rw [if_neg h, pl_eq k _ _ _ (times_lt _ _ ha) hp hn', pw_square a ha]
      have e : 2 * (n / 2) = n := by omega
      rw [e]
theorem pow_eq (a n : Nat) (ha : a < 256) (hn : n < 2 ^ 63) : pow a n = pw a n := by
  rw [pow, pl_eq 63 a n 1 ha (by decide) hn, one_times _ (pw_lt a ha n)]
/-- The inverse. -/
def inv (a : Nat) : Nat := pl 8 a 254 1
theorem inv_eq (a : Nat) (ha : a < 256) : inv a = pw a 254 := by
  rw [inv, pl_eq 8 a 254 1 ha (by decide) (by decide), one_times _ (pw_lt a ha _)]
theorem inv_lt (a : Nat) (ha : a < 256) : inv a < 256 := by rw [inv_eq a ha]; exact pw_lt a ha _
theorem inv_zero : inv 0 = 0 := by decide +kernel
theorem times_inv : ∀ a, a < 256 → a ≠ 0 → times a (inv a) = 1 := by decide +kernel
theorem inv_inv : ∀ a, a < 256 → inv (inv a) = a := by decide +kernel
theorem times_eq_zero (a b : Nat) (ha : a < 256) (hb : b < 256) : times a b = 0 ↔ a = 0 ∨ b = 0 := by
  constructor
  · intro h
    by_cases h0 : a = 0
    · exact .inl h0
    · right
      have h1 := times_inv a ha h0
      have h2 : times (times (inv a) a) b = b := by
        rw [times_comm _ _ (inv_lt a ha) ha, h1, one_times b hb]
      rw [times_assoc _ _ _ (inv_lt a ha) ha hb, h, times_zero] at h2
      exact h2.symm
  · rintro (rfl | rfl)
    · exact zero_times b
    · exact times_zero a
theorem pw_255 (a : Nat) (ha : a < 256) (h0 : a ≠ 0) : pw a 255 = 1 := by
  rw [pw, ← inv_eq a ha, times_comm _ _ (inv_lt a ha) ha, times_inv a ha h0]
theorem pw_255_add (a n : Nat) (ha : a < 256) (h0 : a ≠ 0) : pw a (255 + n) = pw a n := by
  rw [pw_add a ha, pw_255 a ha h0, one_times _ (pw_lt a ha n)]
end Go.Proofs.YtdfbcdgneboilaaDoor
namespace Go.Proofs.YtdfbcdgneboilaaDoor
open Go.ChangeShapes Go.WideShapes Go.ChangeAt Go.RowKit
set_option maxRecDepth 20000

theorem odd_i64 (n : Nat) (hn : n < 9223372036854775808) : (bits .and .i64 (n : Int) 1 != 0) = decide (n % 2 = 1) := by
  have e := (bits_nat .i64 63 (by decide) (fun m h h' => by rw [IntKind.wrap_i64]; omega) n 1 hn (by decide)).1
  rw [show (1 : Int) = ((1 : Nat) : Int) from rfl, e, Nat.and_one_is_mod]
  rcases Nat.mod_two_eq_zero_or_one n with h | h <;> rw [h] <;> decide
theorem pl_pass (n x y s T : Nat) (_hx : x < 256) (hs : s < 256) (hy : y < 2 ^ (n + 1)) (ht : pl (n + 1) x y s = T) :
    (y / 2 = 0 → (if y % 2 = 1 then times s x else s) = T) ∧ (y / 2 ≠ 0 → ∃ m, y / 2 < 2 ^ (m + 1) ∧ pl (m + 1) (times x x) (y / 2) (if y % 2 = 1 then times s x else s) = T) ∧ (if y % 2 = 1 then times s x else s) < 256 := by
  rw [pl] at ht
  refine ⟨fun h => ?_, fun h => ?_, ?_⟩
  · rw [h, pl_zero] at ht; exact ht
  · cases n with
    | zero => simp at hy; omega
    | succ m => exact ⟨m, by rw [Nat.pow_succ] at hy; omega, ht⟩
  · split
    · exact times_lt _ _ hs
    · exact hs
theorem power_neg (a n : Int) (hn : n < 0) (w : World) :
    Calls Tryd.prog 62 #[.int .u8 a, .int .i64 n] w fun e w' => e = .returned (.int .u8 0) ∧ w' = w := by
  go_enter Tryd.func62, Tryd.ntmps62
  go_wp2
  go_step3
  go_wp2
  rw [Exit.noGoto_ret]
  go_ret
  exact ⟨rfl, rfl⟩
set_option maxHeartbeats 1600000 in
set_option maxRecDepth 1000000 in
theorem power_pos (a n : Nat) (ha : a < 256) (hn : n < 9223372036854775808) (w : World) :
    Calls Tryd.prog 62 #[.int .u8 a, .int .i64 n] w fun e w' => e = .returned (.int .u8 (pow a n : Nat)) ∧ w' = w := by
  have h0 : ¬ ((n : Int) < 0) := by omega
  go_enter Tryd.func62, Tryd.ntmps62
  go_wp2
  refine wp_scope_jumps 0 (fun a' w' => w' = w ∧ ∃ (k x y s : Nat) (u6 u7 u8 u9 u10 u11 u12 u13 u14 u15 u16 u17 u18 u19 u20 u21 : Value), a' = { tmps := #[.int .u8 x, .int .i64 y, undef, undef, .int .u8 0, .int .u8 s, u6, u7, u8, u9, u10, u11, u12, u13, u14, u15, u16, u17, u18, u19, u20, u21], defers := [] } ∧ x < 256 ∧ y < 9223372036854775808 ∧ s < 256 ∧ y < 2 ^ (k + 1) ∧ pl (k + 1) x y s = pow a n) (fun a' _ => (intOf (a'.tmps.getD 1 undef)).toNat) rfl ?_ ?_
  · have hp := pl_pass 62 a n 1 (pow a n) ha (by decide) hn rfl
    have hm : (bits .and .i64 (n : Int) 1 != 0) = decide (n % 2 = 1) := odd_i64 n hn
    have HY := hide hn
    clear hn
    by_cases ho : n % 2 = 1
    · have hm' : (bits .and .i64 (n : Int) 1 != 0) = true := by rw [hm]; simpa using ho
      clear hm
      rw [if_pos ho] at hp
      have HP := hide hp
      clear hp
      have k1 : ∀ w, Calls Tryd.prog 43 #[.int .u8 1, .int .u8 a] w fun e w' => e = .returned (.int .u8 (times 1 a : Nat)) ∧ w' = w := fun w => times_any 1 a (by decide) ha w
      have K1 := hide k1
      clear k1
      by_cases hz : n / 2 = 0
      · have hz' : ((n : Int) / 2 != 0) = false := by simp; omega
        go_wp2
        go_step3
        go_wp2_with fail
        refine (K1.out _).mono ?_
        rintro e w' ⟨rfl, rfl⟩
        go_wp2_with fail
        refine (times_any a a ha ha _).mono ?_
        rintro e w' ⟨rfl, rfl⟩
        go_wp2
        simp only [Exit.jump]
        go_ret
        refine ⟨ret_int ?_, rfl⟩
        have := HP.out.1 hz; omega
      · have hz' : ((n : Int) / 2 != 0) = true := by rw [bne_iff_ne]; omega
        obtain ⟨m, hm1, hm2⟩ := HP.out.2.1 hz
        have HM := hide hm2
        clear hm2
        go_wp2
        go_step3
        go_wp2_with fail
        refine (K1.out _).mono ?_
        rintro e w' ⟨rfl, rfl⟩
        go_wp2_with fail
        refine (times_any a a ha ha _).mono ?_
        rintro e w' ⟨rfl, rfl⟩
        go_wp2
        go_step3
        first | exact ⟨rfl, rfl, m, times a a, n / 2, times 1 a, _, _, _, _, _, _, _, _, _, _, _, _, _, _, _, _, rfl, times_lt _ _ ha, by have := HY.out; omega, HP.out.2.2, hm1, HM.out⟩ | exact ⟨rfl, rfl, m, times a a, n / 2, times 1 a, ⟨_, _, _, _, _, _, _, _, _, _, _, _, _, _, _, _, rfl⟩, times_lt _ _ ha, by have := HY.out; omega, HP.out.2.2, hm1, HM.out⟩
    · have hm' : (bits .and .i64 (n : Int) 1 != 0) = false := by rw [hm]; simpa using ho
      clear hm
      rw [if_neg ho] at hp
      have HP := hide hp
      clear hp
      by_cases hz : n / 2 = 0
      · have hz' : ((n : Int) / 2 != 0) = false := by simp; omega
        go_wp2
        go_step3
        go_wp2_with fail
        refine (times_any a a ha ha _).mono ?_
        rintro e w' ⟨rfl, rfl⟩
        go_wp2
        simp only [Exit.jump]
        go_ret
        refine ⟨ret_int ?_, rfl⟩
        have := HP.out.1 hz; omega
      · have hz' : ((n : Int) / 2 != 0) = true := by rw [bne_iff_ne]; omega
        obtain ⟨m, hm1, hm2⟩ := HP.out.2.1 hz
        have HM := hide hm2
        clear hm2
        go_wp2
        go_step3
        go_wp2_with fail
        refine (times_any a a ha ha _).mono ?_
        rintro e w' ⟨rfl, rfl⟩
        go_wp2
        go_step3
        first | exact ⟨rfl, rfl, m, times a a, n / 2, 1, _, _, _, _, _, _, _, _, _, _, _, _, _, _, _, _, rfl, times_lt _ _ ha, by have := HY.out; omega, HP.out.2.2, hm1, HM.out⟩ | exact ⟨rfl, rfl, m, times a a, n / 2, 1, ⟨_, _, _, _, _, _, _, _, _, _, _, _, _, _, _, _, rfl⟩, times_lt _ _ ha, by have := HY.out; omega, HP.out.2.2, hm1, HM.out⟩
  · rintro a' w' ⟨rfl, k, x, y, s, u6, u7, u8, u9, u10, u11, u12, u13, u14, u15, u16, u17, u18, u19, u20, u21, rfl, hx, hy, hs, hk, ht⟩
    have hp := pl_pass k x y s (pow a n) hx hs hk ht
    clear ht
    have hm : (bits .and .i64 (y : Int) 1 != 0) = decide (y % 2 = 1) := odd_i64 y hy
    have HY := hide hy
    clear hy
    by_cases ho : y % 2 = 1
    · have hm' : (bits .and .i64 (y : Int) 1 != 0) = true := by rw [hm]; simpa using ho
      clear hm
      rw [if_pos ho] at hp
      have HP := hide hp
      clear hp
      have k1 : ∀ w, Calls Tryd.prog 43 #[.int .u8 (s : Int), .int .u8 x] w fun e w' => e = .returned (.int .u8 (times s x : Nat)) ∧ w' = w := fun w => times_any s x hs hx w
      have K1 := hide k1
      clear k1
      by_cases hz : y / 2 = 0
      · have hz' : ((y : Int) / 2 != 0) = false := by simp; omega
        go_wp2_with fail
        refine (K1.out _).mono ?_
        rintro e w' ⟨rfl, rfl⟩
        go_wp2_with fail
        refine (times_any x x hx hx _).mono ?_
        rintro e w' ⟨rfl, rfl⟩
        go_wp2
        simp only [Exit.jump]
        go_ret
        refine ⟨ret_int ?_, rfl⟩
        have := HP.out.1 hz; omega
      · have hz' : ((y : Int) / 2 != 0) = true := by rw [bne_iff_ne]; omega
        obtain ⟨m, hm1, hm2⟩ := HP.out.2.1 hz
        have HM := hide hm2
        clear hm2
        go_wp2_with fail
        refine (K1.out _).mono ?_
        rintro e w' ⟨rfl, rfl⟩
        go_wp2_with fail
        refine (times_any x x hx hx _).mono ?_
        rintro e w' ⟨rfl, rfl⟩
        go_wp2
        go_step3
        refine ⟨rfl, ?_, ?_⟩
        · first | exact ⟨rfl, m, times x x, y / 2, times s x, _, _, _, _, _, _, _, _, _, _, _, _, _, _, _, _, rfl, times_lt _ _ hx, by have := HY.out; omega, HP.out.2.2, hm1, HM.out⟩ | exact ⟨rfl, m, times x x, y / 2, times s x, ⟨_, _, _, _, _, _, _, _, _, _, _, _, _, _, _, _, rfl⟩, times_lt _ _ hx, by have := HY.out; omega, HP.out.2.2, hm1, HM.out⟩
        · simp [intOf]; omega
    · have hm' : (bits .and .i64 (y : Int) 1 != 0) = false := by rw [hm]; simpa using ho
      clear hm
      rw [if_neg ho] at hp
      have HP := hide hp
      clear hp
      by_cases hz : y / 2 = 0
      · have hz' : ((y : Int) / 2 != 0) = false := by simp; omega
        go_wp2_with fail
        refine (times_any x x hx hx _).mono ?_
        rintro e w' ⟨rfl, rfl⟩
        go_wp2
        simp only [Exit.jump]
        go_ret
        refine ⟨ret_int ?_, rfl⟩
        have := HP.out.1 hz; omega
      · have hz' : ((y : Int) / 2 != 0) = true := by rw [bne_iff_ne]; omega
        obtain ⟨m, hm1, hm2⟩ := HP.out.2.1 hz
        have HM := hide hm2
        clear hm2
        go_wp2_with fail
        refine (times_any x x hx hx _).mono ?_
        rintro e w' ⟨rfl, rfl⟩
        go_wp2
        go_step3
        refine ⟨rfl, ?_, ?_⟩
        · first | exact ⟨rfl, m, times x x, y / 2, s, _, _, _, _, _, _, _, _, _, _, _, _, _, _, _, _, rfl, times_lt _ _ hx, by have := HY.out; omega, HP.out.2.2, hm1, HM.out⟩ | exact ⟨rfl, m, times x x, y / 2, s, ⟨_, _, _, _, _, _, _, _, _, _, _, _, _, _, _, _, rfl⟩, times_lt _ _ hx, by have := HY.out; omega, HP.out.2.2, hm1, HM.out⟩
        · simp [intOf]; omega
theorem power_any (a n : Nat) (ha : a < 256) (hn : n < 9223372036854775808) (w : World) :
    Calls Tryd.prog 62 #[.int .u8 a, .int .i64 n] w fun e w' => e = .returned (.int .u8 (pw a n : Nat)) ∧ w' = w := by
  rw [← pow_eq a n ha hn]; exact power_pos a n ha hn w
theorem inverse_any (a : Nat) (ha : a < 256) (w : World) :
    Calls Tryd.prog 42 #[.int .u8 a] w fun e w' => e = .returned (.int .u8 (inv a : Nat)) ∧ w' = w := by
  have k : ∀ w, Calls Tryd.prog 62 #[.int .u8 a, .int .i64 254] w fun e w' => e = .returned (.int .u8 (inv a : Nat)) ∧ w' = w := fun w => by
    rw [inv_eq a ha]; exact power_any a 254 ha (by decide) w
  have K := hide k
  clear k
  go_enter Tryd.func42, Tryd.ntmps42
  go_wp2_with fail
  refine (K.out _).mono ?_
  rintro e w' ⟨rfl, rfl⟩
  go_wp2
  go_ret
  exact ⟨rfl, rfl⟩
end Go.Proofs.YtdfbcdgneboilaaDoor
