/- Own: the contracts of PutWord and PutLong of layer 1 (no statement is proved here). -/
import Derived.Test.YtlkihbmkekadeaaDoorWord
namespace Go.Proofs.YtlkihbmkekadeaaDoor
open Go.ChangeShapes Go.WideShapes Go.ChangeAt Go.RowKit

/-- A number's lowest bytes, so many. -/
def putB (n k : Nat) : List UInt8 := (List.range k).map fun i => UInt8.ofNat (n / 256 ^ i)
theorem length_putB (n k : Nat) : (putB n k).length = k := by simp [putB]
theorem cell_putB (n i : Nat) : Value.int .u8 (((UInt8.ofNat (n / 256 ^ i)).toNat : Nat) : Int) = .int .u8 ((n : Int) / 256 ^ i % 256) := by
  rw [UInt8.toNat_ofNat']
  congr 1
theorem cells4 (n : Nat) : bcells (putB n 4) = [.int .u8 ((n : Int) % 256), .int .u8 ((n : Int) / 256 % 256), .int .u8 ((n : Int) / 65536 % 256), .int .u8 ((n : Int) / 16777216 % 256)] := by
  have h := cell_putB n
  simp only [bcells, putB, List.range, List.range.loop, List.map_cons, List.map_nil, h]
  simp
set_option maxHeartbeats 800000 in
theorem putword_any (n : Nat) (hn : n < 4294967296) (w : World) :
    Calls Tryd.prog 53 #[.int .u32 n] w fun e w' => e = .returned (.agg (bcells (putB n 4)).toArray) ∧ Below w.heap.size w w' := by
  rw [cells4]
  go_enter Tryd.func53, Tryd.ntmps53
  go_wp2
  refine wp_loop_rounds 5 ?_
  rw [rounds_succ]
  go_wp2
  rw [rounds_succ]
  go_wp2
  rw [rounds_succ]
  go_wp2
  rw [rounds_succ]
  go_wp2
  rw [rounds_succ]
  go_wp2
  simp [bodyPost, results, Tryd.results53, go_sem]
  refine ⟨by omega, ?_⟩
  repeat (first | exact Below.refl _ _ | refine below_alloc ?_ _)
end Go.Proofs.YtlkihbmkekadeaaDoor
