/- Own: the contract of Load of layer 1, and what OctetSteps needs of plain numbers (no statement is proved here). -/
import Derived.Test.YtlcjkmgeaiclbaaAwake
namespace Go.Proofs.Ytlcjkmgeaiclbaa
open Go.ChangeShapes Go.WideShapes Go.ChangeAt Go.RowKit

/-- A contract, told from an earlier world on. -/
theorem based {P : Program} {f : FuncId} {args : Array Value} {w w0 : World} {Q : Ending → World → Prop} (h : Calls P f args w fun e w' => Q e w' ∧ Below w.heap.size w w') (h0 : Below w0.heap.size w0 w) :
    Calls P f args w fun e w' => Q e w' ∧ Below w0.heap.size w0 w' := h.mono fun _ _ ⟨hq, hb⟩ => ⟨hq, below_two h0 hb⟩

set_option maxHeartbeats 400000 in
theorem load_any (v : Value) (bs : List UInt8) (w : World) (hv : IsB w v bs) :
    Calls Try.prog 12 #[v] w fun e w' => e = .returned (.agg #[.int .u64 (num bs 0 8 : Nat), .int .u64 (num bs 8 8 : Nat)]) ∧ Below w.heap.size w w' := by
  have b0 : Below w.heap.size w (w.alloc (.cells #[.int .u64 0, .int .u64 0] 25)) := below_alloc (Below.refl _ _) _
  have v0 : Hid (IsB (w.alloc (.cells #[.int .u64 0, .int .u64 0] 25)) v bs) := hv.later b0
  go_enter Try.func12, Try.ntmps12
  go_wp2_with fail
  refine (long_w v bs 0 _ v0.out).mono ?_
  rintro e w1 ⟨rfl, rfl⟩
  have b1 := below_alloc (below_alloc b0 (.cells #[v] 22)) (.cells #[.int .i64 0] 3)
  go_wp2_with fail
  refine (long_w v bs 8 _ (hv.later b1)).mono ?_
  rintro e w2 ⟨rfl, rfl⟩
  clear b0 v0 hv b1
  go_wp2
  simp [bodyPost, results, Try.results12, go_sem]
  repeat (first | exact Below.refl _ _ | refine below_alloc ?_ _)
theorem num_split (bs : List UInt8) (a : Int) : num bs a 8 = num bs a 4 + num bs (a + 4) 4 * 4294967296 := by
  have e : ∀ k : Nat, byteAt bs (a + 4 + (k : Int)) = byteAt bs (a + ((4 + k : Nat) : Int)) := fun k => by congr 1; omega
  simp only [num, e, Nat.reduceAdd]
  omega
theorem or_high (lo hi : Nat) (h : lo < 4294967296) (h' : hi < 4294967296) :
    bits .or .u64 (((lo : Nat) : Int) % 18446744073709551616) (((hi : Nat) : Int) % 18446744073709551616 * 4294967296 % 18446744073709551616) = ((lo + hi * 4294967296 : Nat) : Int) := by
  have e1 : ((lo : Nat) : Int) % 18446744073709551616 = (lo : Nat) := by omega
  have e2 : ((hi : Nat) : Int) % 18446744073709551616 * 4294967296 % 18446744073709551616 = ((hi * 4294967296 : Nat) : Int) := by omega
  rw [e1, e2, bits_or_u64_nat _ _ (by omega) (by omega), or_add lo hi 32 h]
theorem or_high2 (lo hi : Nat) (h : lo < 4294967296) (h' : hi < 4294967296) :
    bits .or .u64 ((lo : Nat) : Int) (((hi : Nat) : Int) * 4294967296) = ((lo + hi * 4294967296 : Nat) : Int) := by
  have e2 : ((hi : Nat) : Int) * 4294967296 = ((hi * 4294967296 : Nat) : Int) := by omega
  rw [e2, bits_or_u64_nat _ _ (by omega) (by omega), or_add lo hi 32 h]
end Go.Proofs.Ytlcjkmgeaiclbaa
