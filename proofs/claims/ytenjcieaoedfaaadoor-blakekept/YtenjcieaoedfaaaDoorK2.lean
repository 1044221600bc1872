/- Own: the reference's rounds of layer 6 (no statement is proved here). -/
import Derived.Test.YtenjcieaoedfaaaDoorK1
import Derived.Test.YtenjcieaoedfaaaDoorE1
import Derived.KernelRfl
namespace Go.Proofs.YtenjcieaoedfaaaDoor.Ab
open Go.Proofs
set_option linter.unusedSimpArgs false
set_option linter.unusedVariables false
-- AGLIM=12
theorem krot_comm (x : Int) (k : Nat) : IntKind.u64.wrap ((BitVec.ofInt 64 (x.fdiv (2 ^ (64 - k))) ||| BitVec.ofInt 64 (IntKind.u64.wrap (x * 2 ^ k))).toNat : Int) = krot x k := by
  unfold krot; rw [BitVec.or_comm]
theorem kadd_assoc (x y z : Int) : kadd (kadd x y) z = kadd x (kadd y z) := by
  unfold kadd; simp only [wrap_u64]; omega
/-- The first numbers. -/
def kfirst : List Int := [7640891576956012808, 13503953896175478587, 4354685564936845355, 11912009170470909681, 5840696475078001361, 11170449401992604703, 2270897969802886507, 6620516959819538809]
/-- The rows. -/
def krows : List Nat := [0, 1, 2, 3, 4, 5, 6, 7, 8, 9, 10, 11, 12, 13, 14, 15, 14, 10, 4, 8, 9, 15, 13, 6, 1, 12, 0, 2, 11, 7, 5, 3, 11, 8, 12, 0, 5, 2, 15, 13, 10, 14, 3, 6, 7, 1, 9, 4, 7, 9, 3, 1, 13, 12, 11, 14, 2, 6, 5, 10, 4, 0, 15, 8, 9, 0, 5, 7, 2, 4, 10, 15, 14, 1, 11, 12, 6, 8, 3, 13, 2, 12, 6, 10, 0, 11, 8, 3, 4, 13, 7, 5, 15, 14, 1, 9, 12, 5, 1, 15, 14, 13, 4, 10, 0, 7, 6, 3, 9, 2, 8, 11, 13, 11, 7, 14, 12, 1, 3, 9, 5, 0, 15, 4, 8, 6, 2, 10, 6, 15, 14, 9, 11, 3, 0, 8, 12, 2, 13, 7, 1, 4, 10, 5, 10, 2, 8, 4, 7, 6, 1, 5, 15, 11, 9, 14, 3, 12, 13, 0]
def krow (r j : Nat) : Nat := krows.getD (16 * (r % 10) + j) 0
theorem krow_lt (r j : Nat) (h : j < 16) : krow r j < 16 := by
  have h1 : r % 10 < 10 := by omega
  have key : ∀ a, a < 10 → ∀ b, b < 16 → krows.getD (16 * a + b) 0 < 16 := by decide +kernel
  exact key _ h1 _ h
end Go.Proofs.YtenjcieaoedfaaaDoor.Ab
