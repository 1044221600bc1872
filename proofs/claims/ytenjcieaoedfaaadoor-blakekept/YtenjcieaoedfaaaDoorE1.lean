/- Own: the reference of layer 1: bytes at places, numbers, numbers' bytes (no statement is proved here). -/
import Derived.Test.YtenjcieaoedfaaaDoorN0
import Derived.KernelRfl
namespace Go.Proofs.YtenjcieaoedfaaaDoor.Ab
open Go.Proofs
set_option linter.unusedSimpArgs false
set_option linter.unusedVariables false
end Go.Proofs.YtenjcieaoedfaaaDoor.Ab
