/- Own: the plain notions of rows of bytes that the contracts of layer 1 speak of (no statement is proved here). -/
import Derived.Test.YtlkihbmkekadeaaDoorRows
import Derived.WalkKit
import Derived.ProofKit
import Derived.OpenShut
import Derived.Below
import Derived.Outline
import Derived.WalkLawsBesides
import Derived.WalkSpells
import Derived.BigQuiet
import Derived.Deep.QuietTactic
import Derived.Deep.RegionHeld3
import Derived.Laws.CopyOwn
import Derived.Laws.CopyRow
import Derived.Laws.Externs
import Derived.Deep.WholeRow
namespace Go.Proofs.YtlkihbmkekadeaaDoor
open Go.ChangeShapes Go.WideShapes Go.ChangeAt Go.RowKit

/-- A row of bytes in the world: the slice value v reads as bs. -/
def IsB (w : World) (v : Value) (bs : List UInt8) : Prop :=
  bs.length ≤ 9223372036854775807 ∧ ∃ (a : Option Addr) (cap : Nat), v = .slice a bs.length cap ∧ (bs.length = 0 ∨ ∃ b off : Nat, a = some ⟨b, off, none⟩ ∧ ∀ i, i < bs.length → w.cell? ⟨b, off + i, none⟩ = some (.int .u8 ((bs.getD i 0).toNat : Int)))

/-- The byte at a place, 0 where there is none. -/
def byteAt (bs : List UInt8) (j : Int) : Nat := if 0 ≤ j ∧ j < bs.length then (bs.getD j.toNat 0).toNat else 0
theorem byteAt_lt (bs : List UInt8) (j : Int) : byteAt bs j < 256 := by
  unfold byteAt; split
  · exact UInt8.toNat_lt _
  · omega
theorem byteAt_out (bs : List UInt8) (j : Int) (h : j < 0 ∨ (bs.length : Int) ≤ j) : byteAt bs j = 0 := by
  unfold byteAt; rw [if_neg (by omega)]
theorem byteAt_in (bs : List UInt8) (j : Int) (h : 0 ≤ j) (h' : j < bs.length) : byteAt bs j = (bs.getD j.toNat 0).toNat := by
  unfold byteAt; rw [if_pos ⟨h, h'⟩]

/-- So many bytes from a place on, the lowest first. -/
def num (bs : List UInt8) (a : Int) : Nat → Nat
  | 0 => 0
  | k + 1 => num bs a k + byteAt bs (a + k) * 2 ^ (8 * k)
theorem num_lt (bs : List UInt8) (a : Int) : ∀ k, num bs a k < 2 ^ (8 * k)
  | 0 => by simp [num]
  | k + 1 => by
    have h := num_lt bs a k
    have h2 := byteAt_lt bs (a + k)
    have e : 2 ^ (8 * (k + 1)) = 2 ^ (8 * k) * 256 := by rw [Nat.mul_add, Nat.pow_add]
    rw [num, e]
    have h3 : byteAt bs (a + k) * 2 ^ (8 * k) ≤ 255 * 2 ^ (8 * k) := Nat.mul_le_mul_right _ (by omega)
    omega
theorem num_congr {bs cs : List UInt8} {a b : Int} : ∀ {k : Nat}, (∀ i : Nat, i < k → byteAt bs (a + i) = byteAt cs (b + i)) → num bs a k = num cs b k
  | 0, _ => rfl
  | k + 1, h => by
    rw [num, num, num_congr (fun i hi => h i (by omega)), h k (by omega)]

theorem or_add (a b k : Nat) (h : a < 2 ^ k) : a ||| (b * 2 ^ k) = a + b * 2 ^ k := by
  rw [Nat.or_comm, Nat.mul_comm b, ← Nat.two_pow_add_eq_or_of_lt h]; omega

theorem addr_add (b off j : Nat) : (⟨b, off, none⟩ : Addr).add j = ⟨b, off + j, none⟩ := by
  unfold Addr.add; split <;> simp_all
theorem below_alloc {w w' : World} (h : Below w.heap.size w w') (o : Obj) : Below w.heap.size w (w'.alloc o) := h.alloc h.size o
theorem below_two {w w' w'' : World} (h : Below w.heap.size w w') (h' : Below w'.heap.size w' w'') : Below w.heap.size w w'' := h.trans (h'.mono h.size)
/-- What a region that draws its order keeps: nothing old has turned, and the blocks ahead of it hold what they held. -/
theorem held_keep {w W0 w1 w2 : World} {N : Nat} (h : Below w.heap.size w w1 ∧ N ≤ w1.heap.size ∧ ∀ b o, b < N → w1.cell? ⟨b, o, none⟩ = W0.cell? ⟨b, o, none⟩) (hb : Below w1.heap.size w1 w2) :
    Below w.heap.size w w2 ∧ N ≤ w2.heap.size ∧ ∀ b o, b < N → w2.cell? ⟨b, o, none⟩ = W0.cell? ⟨b, o, none⟩ :=
  ⟨below_two h.1 hb, Nat.le_trans h.2.1 hb.size, fun b o hlt => (hb.cell (p := ⟨b, o, none⟩) (Nat.lt_of_lt_of_le hlt h.2.1)).trans (h.2.2 b o hlt)⟩
theorem held_start {w W0 : World} {N : Nat} (h : Below w.heap.size w W0) (hN : N ≤ W0.heap.size) :
    Below w.heap.size w W0.drew ∧ N ≤ W0.drew.heap.size ∧ ∀ b o, b < N → W0.drew.cell? ⟨b, o, none⟩ = W0.cell? ⟨b, o, none⟩ :=
  ⟨h.drew, hN, fun _ _ _ => rfl⟩
theorem held_below {w W0 w1 : World} {N : Nat} (h : Below w.heap.size w w1 ∧ N ≤ w1.heap.size ∧ ∀ b o, b < N → w1.cell? ⟨b, o, none⟩ = W0.cell? ⟨b, o, none⟩) : Below w.heap.size w w1 := h.1
theorem own : ownKnob Tryd.prog.godebug = none := by kernel_rfl
theorem laidOut : laidOutB Tryd.prog = true := by kernel_rfl
theorem hide {p : Prop} (h : p) : Hid p := h
theorem ret_int {k : IntKind} {a b : Int} (h : a = b) : Ending.returned (.int k a) = .returned (.int k b) := by rw [h]
/-- Bytes, each as a cell. -/
def bcells (bs : List UInt8) : List Value := bs.map fun b => .int .u8 (b.toNat : Int)
theorem length_bcells (bs : List UInt8) : (bcells bs).length = bs.length := by simp [bcells]
theorem bcells_get (bs : List UInt8) (i : Nat) (h : i < bs.length) : (bcells bs)[i]? = some (.int .u8 ((bs.getD i 0).toNat : Int)) := by
  simp [bcells, h]
theorem bcells_one (bs : List UInt8) : ∀ v ∈ bcells bs, v.oneCell' = true := by
  intro v hv; obtain ⟨b, _, rfl⟩ := List.mem_map.1 hv; rfl
/-- A row of bytes that lies in a block of its own, from a base on: it may be written. -/
def OwnB (base : Nat) (w : World) (v : Value) (bs : List UInt8) : Prop :=
  bs.length ≤ 9223372036854775807 ∧ ∃ g, base ≤ g ∧ v = .slice (some ⟨g, 0, none⟩) bs.length bs.length ∧ w.heap[g]? = some (.cells (bcells bs).toArray 5 (0, 0))
theorem OwnB.isB {base : Nat} {w : World} {v : Value} {bs : List UInt8} (h : OwnB base w v bs) : IsB w v bs := by
  obtain ⟨h0, g, _, e, hg⟩ := h
  refine ⟨h0, _, _, e, .inr ⟨g, 0, rfl, fun i hi => ?_⟩⟩
  rw [cell_of_row w g _ _ _ _ hg]
  simpa using bcells_get bs i hi
theorem pow_step (b k m : Nat) (hb : b < 256) (hk : k < m) : b * 2 ^ (8 * k) < 2 ^ (8 * m) := by
  have h1 : b * 2 ^ (8 * k) < 2 ^ (8 * (k + 1)) := by
    have e : 2 ^ (8 * (k + 1)) = 256 * 2 ^ (8 * k) := by rw [Nat.mul_add, Nat.pow_add, Nat.mul_comm]
    rw [e]; exact Nat.mul_lt_mul_of_pos_right hb (Nat.two_pow_pos _)
  exact Nat.lt_of_lt_of_le h1 (Nat.pow_le_pow_right (by decide) (by omega))
theorem or_step32 (bs : List UInt8) (a : Int) (k : Nat) (hk : k < 4) :
    bits .or .u32 (num bs a k : Nat) (((byteAt bs (a + k) : Nat) : Int) % 4294967296 * 2 ^ (8 * k) % 4294967296) = (num bs a (k + 1) : Nat) := by
  have hb := byteAt_lt bs (a + k)
  have hlt : byteAt bs (a + k) * 2 ^ (8 * k) < 4294967296 := pow_step _ k 4 hb hk
  have hn := num_lt bs a k
  have hn' : num bs a k < 4294967296 := Nat.lt_of_lt_of_le hn (show 2 ^ (8 * k) ≤ 2 ^ 32 from Nat.pow_le_pow_right (by decide) (by omega))
  have h1 : ((byteAt bs (a + k) : Nat) : Int) % 4294967296 = (byteAt bs (a + k) : Nat) := by omega
  have h2 : ((byteAt bs (a + k) * 2 ^ (8 * k) : Nat) : Int) = ((byteAt bs (a + k) : Nat) : Int) * 2 ^ (8 * k) := by simp
  have h3 : ((byteAt bs (a + k) * 2 ^ (8 * k) : Nat) : Int) % 4294967296 = (byteAt bs (a + k) * 2 ^ (8 * k) : Nat) := by omega
  rw [h1, ← h2, h3, (bits_nat .u32 32 (by decide) (fun n h h' => by rw [IntKind.wrap_u32]; omega) _ _ hn' hlt).2, or_add _ _ _ hn]
  rfl
theorem or_step64 (bs : List UInt8) (a : Int) (k : Nat) (hk : k < 8) :
    bits .or .u64 (num bs a k : Nat) (((byteAt bs (a + k) : Nat) : Int) % 18446744073709551616 * 2 ^ (8 * k) % 18446744073709551616) = (num bs a (k + 1) : Nat) := by
  have hb := byteAt_lt bs (a + k)
  have hlt : byteAt bs (a + k) * 2 ^ (8 * k) < 18446744073709551616 := pow_step _ k 8 hb hk
  have hn := num_lt bs a k
  have hn' : num bs a k < 18446744073709551616 := Nat.lt_of_lt_of_le hn (show 2 ^ (8 * k) ≤ 2 ^ 64 from Nat.pow_le_pow_right (by decide) (by omega))
  have h1 : ((byteAt bs (a + k) : Nat) : Int) % 18446744073709551616 = (byteAt bs (a + k) : Nat) := by omega
  have h2 : ((byteAt bs (a + k) * 2 ^ (8 * k) : Nat) : Int) = ((byteAt bs (a + k) : Nat) : Int) * 2 ^ (8 * k) := by simp
  have h3 : ((byteAt bs (a + k) * 2 ^ (8 * k) : Nat) : Int) % 18446744073709551616 = (byteAt bs (a + k) * 2 ^ (8 * k) : Nat) := by omega
  rw [h1, ← h2, h3, bits_or_u64_nat _ _ hn' hlt, or_add _ _ _ hn]
  rfl

theorem later {w w' : World} {a : Addr} {v : Value} (hb : Below w.heap.size w w') (h : w.cell? a = some v) : w'.cell? a = some v :=
  (hb.cell (World.block_lt_of_cell? _ _ h)).trans h
theorem IsB.later {w w' : World} {v : Value} {bs : List UInt8} (hb : Below w.heap.size w w') (h : IsB w v bs) : IsB w' v bs := by
  obtain ⟨h0, a, cap, e, h1⟩ := h
  refine ⟨h0, a, cap, e, ?_⟩
  rcases h1 with h1 | ⟨b, off, ea, hc⟩
  · exact .inl h1
  · exact .inr ⟨b, off, ea, fun i hi => Go.Proofs.YtlkihbmkekadeaaDoor.later hb (hc i hi)⟩

end Go.Proofs.YtlkihbmkekadeaaDoor
