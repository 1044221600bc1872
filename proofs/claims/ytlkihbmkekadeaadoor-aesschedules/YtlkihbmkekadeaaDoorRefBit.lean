/- Own: the contract of the reference's bit (no statement is proved here). -/
import Derived.Test.YtlkihbmkekadeaaDoorOG2
import Derived.Test.YtlkihbmkekadeaaDoorRefTimes
namespace Go.Proofs.YtlkihbmkekadeaaDoor
open Go.ChangeShapes Go.WideShapes Go.ChangeAt Go.RowKit
set_option maxRecDepth 20000
theorem ref_bit (a i : Nat) (hi : i < 16) (w : World) : Calls Tryd.prog 79 #[.int .u8 a, .int .i64 i] w fun e w' => e = .returned (.int .u8 ((a / 2 ^ (i % 8) % 2 : Nat) : Int)) ∧ w' = w := by
  go_enter Tryd.func79, Tryd.ntmps79
  go_wp2
  go_ret
  refine ⟨?_, rfl⟩
  show Ending.returned (.int .u8 (((a : Int) / 2 ^ (i % 8)).tmod 2)) = _
  have e : ((a : Int) / 2 ^ (i % 8)) = ((a / 2 ^ (i % 8) : Nat) : Int) := by simp
  rw [e]
  rfl
end Go.Proofs.YtlkihbmkekadeaaDoor
