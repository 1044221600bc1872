/- Own: products of layer 10 (no statement is proved here). -/
import Derived.Test.YtdfbcdgneboilaaDoorG1
import Derived.KernelRfl
namespace Go.Proofs.YtdfbcdgneboilaaDoor.Ab
open Go.Proofs
set_option linter.unusedSimpArgs false
set_option linter.unusedVariables false
def b01 (b : Bool) : Int := if b then 1 else 0
theorem bitB (x : BitVec 64) (k : Nat) : and64 (B (x >>> k)) 1 = b01 (x.getLsbD k) := by
  have e1 : (1 : Int) = B 1#64 := rfl
  rw [e1, andB]
  unfold B
  rw [BitVec.toNat_and, BitVec.toNat_ushiftRight, Nat.shiftRight_eq_div_pow, show (1#64).toNat = 2 ^ 1 - 1 from rfl, Nat.and_two_pow_sub_one_eq_mod, show x.getLsbD k = x.toNat.testBit k from rfl, Nat.testBit_eq_decide_div_mod_eq]
  unfold b01
  have : x.toNat / 2 ^ k % 2 = 0 ∨ x.toNat / 2 ^ k % 2 = 1 := by omega
  rcases this with h | h <;> rw [Nat.pow_one, h] <;> rfl
end Go.Proofs.YtdfbcdgneboilaaDoor.Ab
