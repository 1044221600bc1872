/- Own: arrays of bytes, told by functions (no statement is proved here). -/
import Derived.Test.YtlkihbmkekadeaaDoorBlk
import Derived.Test.YtlkihbmkekadeaaDoorPut
import Derived.Test.YtlkihbmkekadeaaDoorArrEq
import Derived.Test.YtlkihbmkekadeaaDoorMake
namespace Go.Proofs.YtlkihbmkekadeaaDoor
open Go.ChangeShapes Go.WideShapes Go.ChangeAt Go.RowKit
set_option maxRecDepth 20000

/-- So many bytes, as cells. -/
def bc (n : Nat) (f : Nat → Nat) : List Value := (List.range n).map fun i => Value.int .u8 (f i : Nat)
theorem bc_len (n : Nat) (f : Nat → Nat) : (bc n f).length = n := by unfold bc; rw [List.length_map, List.length_range]
theorem bc_get (n : Nat) (f : Nat → Nat) (i : Nat) (h : i < n) : (bc n f)[i]? = some (.int .u8 (f i : Nat)) := by
  unfold bc; rw [List.getElem?_map, List.getElem?_range h]; rfl
theorem bc_congr {n : Nat} {f g : Nat → Nat} (h : ∀ i, i < n → f i = g i) : bc n f = bc n g := by
  unfold bc; exact List.map_congr_left fun i hi => by rw [h i (List.mem_range.1 hi)]
theorem bc_set (n : Nat) (f : Nat → Nat) (j x : Nat) : (bc n f).set j (.int .u8 (x : Nat)) = bc n fun i => if i = j then x else f i := by
  apply List.ext_getElem
  · rw [List.length_set, bc_len, bc_len]
  · intro i h1 h2
    rw [List.getElem_set]
    simp only [bc, List.getElem_map, List.getElem_range]
    by_cases e : j = i
    · rw [if_pos e, if_pos e.symm]
    · rw [if_neg e, if_neg (Ne.symm e)]
theorem bc_one (n : Nat) (f : Nat → Nat) : (bc n f).toArray.all (·.oneCell') = true := by
  rw [Array.all_eq_true]; intro i hi; simp [bc]; rfl
/-- A list's bytes as a function. -/
def lf (bs : List UInt8) (i : Nat) : Nat := (bs.getD i 0).toNat
theorem lf_byt (bs : List UInt8) : Byt (lf bs) := fun _ => UInt8.toNat_lt _
theorem bcells_bc (bs : List UInt8) : bcells bs = bc bs.length (lf bs) := by
  apply List.ext_getElem
  · rw [length_bcells, bc_len]
  · intro i h1 h2
    rw [length_bcells] at h1
    simp only [bc, bcells, List.getElem_map, List.getElem_range, lf]
    rw [List.getD_eq_getElem?_getD, List.getElem?_eq_getElem h1]; rfl
def toB (n : Nat) (f : Nat → Nat) : List UInt8 := (List.range n).map fun i => UInt8.ofNat (f i)
theorem toB_len (n : Nat) (f : Nat → Nat) : (toB n f).length = n := by simp [toB]
theorem toB_get (n : Nat) (f : Nat → Nat) (hf : Byt f) (i : Nat) (h : i < n) : lf (toB n f) i = f i := by
  unfold lf toB
  rw [List.getD_eq_getElem?_getD, List.getElem?_map, List.getElem?_range h]
  show (UInt8.ofNat (f i)).toNat = _
  rw [UInt8.toNat_ofNat', Nat.mod_eq_of_lt (hf i)]
theorem bc_toB (n : Nat) (f : Nat → Nat) (hf : Byt f) : bc n f = bcells (toB n f) := by
  rw [bcells_bc, toB_len]; exact bc_congr fun i hi => (toB_get n f hf i hi).symm
/-- Are two blocks the same? -/
def eqb (n : Nat) (f g : Nat → Nat) : Bool := (List.range n).all fun i => f i == g i
theorem eqb_iff (n : Nat) (f g : Nat → Nat) : eqb n f g = true ↔ ∀ i, i < n → f i = g i := by
  unfold eqb; rw [List.all_eq_true]; simp
theorem eqb_refl (n : Nat) (f : Nat → Nat) : eqb n f f = true := (eqb_iff n f f).2 fun _ _ => rfl
theorem eq_bc (w : World) (t n : Nat) (ht : Tryd.prog.underlying t = some (.array n 5)) (f g : Nat → Nat) (hf : Byt f) (hg : Byt g) : (Op.equalIn 10000 t (.agg (bc n f).toArray) (.agg (bc n g).toArray)).run Tryd.prog w = .ok (eqb n f g) w := by
  rw [bc_toB n f hf, bc_toB n g hg, eq_bytes w t n ht _ _ (toB_len n f) (toB_len n g)]
  congr 1
  rw [Bool.eq_iff_iff, decide_eq_true_iff, eqb_iff]
  constructor
  · intro h i hi; rw [← toB_get n f hf i hi, ← toB_get n g hg i hi, h]
  · intro h; exact List.map_congr_left fun i hi => by rw [h i (List.mem_range.1 hi)]
/-- The first ones alone. -/
def upto (k : Nat) (f : Nat → Nat) (i : Nat) : Nat := if i < k then f i else 0
theorem upto_set (n k : Nat) (f : Nat → Nat) : (bc n (upto k f)).set k (.int .u8 (f k : Nat)) = bc n (upto (k + 1) f) := by
  rw [bc_set]
  refine bc_congr fun i _ => ?_
  unfold upto
  by_cases e : i = k
  · subst e; rw [if_pos rfl, if_pos (by omega)]
  · rw [if_neg e]
    by_cases h : i < k
    · rw [if_pos h, if_pos (by omega)]
    · rw [if_neg h, if_neg (by omega)]
theorem upto_zero (n : Nat) (f : Nat → Nat) : bc n (upto 0 f) = bc n fun _ => 0 := bc_congr fun i _ => by unfold upto; rw [if_neg (by omega)]
theorem upto_all (n : Nat) (f : Nat → Nat) : bc n (upto n f) = bc n f := bc_congr fun i hi => by unfold upto; rw [if_pos hi]
theorem zero16 (w : World) : (zeroValue 31).run Tryd.prog w = .ok (.agg (bc 16 fun _ => 0).toArray) w := by kernel_rfl
theorem zero4 (w : World) : (zeroValue 71).run Tryd.prog w = .ok (.agg (bc 4 fun _ => 0).toArray) w := by kernel_rfl
theorem row_cell {w : World} {g n : Nat} {f : Nat → Nat} {t : TypeId} (h : w.heap[g]? = some (.cells (bc n f).toArray t (0, 0))) (i : Nat) (hi : i < n) : w.cell? ⟨g, i, none⟩ = some (.int .u8 (f i : Nat)) := by
  rw [cell_of_row w g _ _ _ _ h]; simpa using bc_get n f i hi
theorem far {w : World} {p : Addr} {x v : Value} {g i : Nat} (h : w.cell? p = some x) (hne : p.block ≠ g) : (w.setCell ⟨g, i, none⟩ v).cell? p = some x := by
  rw [World.cell?_setCell_far _ _ _ _ (by simpa using fun h' => hne h'.symm)]; exact h
theorem put4 (n : Nat) (hn : n < 4294967296) (w : World) :
    Calls Tryd.prog 53 #[.int .u32 n] w fun e w' => e = .returned (.agg (bc 4 fun i => n / 256 ^ i % 256).toArray) ∧ Below w.heap.size w w' := by
  have h := putword_any n hn w
  have e : bcells (putB n 4) = bc 4 fun i => n / 256 ^ i % 256 := by
    rw [bcells_bc, length_putB]
    refine bc_congr fun i hi => ?_
    unfold lf putB
    rw [List.getD_eq_getElem?_getD, List.getElem?_map, List.getElem?_range hi]
    show (UInt8.ofNat (n / 256 ^ i)).toNat = _
    rw [UInt8.toNat_ofNat']
  rw [e] at h
  exact h
theorem xor_u32 (a b : Nat) (ha : a < 4294967296) (hb : b < 4294967296) : bits .xor .u32 (a : Int) (b : Int) = ((a ^^^ b : Nat) : Int) := by
  have hx : a ^^^ b < 2 ^ 32 := Nat.xor_lt_two_pow (by omega) (by omega)
  have h1 : (BitVec.ofInt 32 (a : Int)).toNat = a := by
    rw [BitVec.ofInt_natCast, BitVec.toNat_ofNat]; exact Nat.mod_eq_of_lt (by omega)
  have h2 : (BitVec.ofInt 32 (b : Int)).toNat = b := by
    rw [BitVec.ofInt_natCast, BitVec.toNat_ofNat]; exact Nat.mod_eq_of_lt (by omega)
  show IntKind.u32.wrap ((BitVec.ofInt 32 (a : Int) ^^^ BitVec.ofInt 32 (b : Int)).toNat : Int) = _
  rw [BitVec.toNat_xor, h1, h2, IntKind.wrap_u32]
  omega
theorem shifted_any (c r : Nat) (hc : c < 4) (hr : r < 4) (w : World) : Calls Tryd.prog 52 #[.int .i64 c, .int .i64 r] w fun e w' => e = .returned (.int .i64 (shf c r : Nat)) ∧ w' = w := by
  go_enter Tryd.func52, Tryd.ntmps52
  go_wp2
  go_ret
  refine ⟨ret_int ?_, rfl⟩
  unfold shf
  omega
end Go.Proofs.YtlkihbmkekadeaaDoor
