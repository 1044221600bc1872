/- Own: tables of layer 10 (no statement is proved here). -/
import Derived.Test.YtfdkdbbigpphcaaDoorG3
import Derived.KernelRfl
namespace Go.Proofs.YtfdkdbbigpphcaaDoor.Ab
open Go.Proofs
set_option linter.unusedSimpArgs false
set_option linter.unusedVariables false
def tb (h : E) : Nat → E
  | 0 => 0#128
  | 1 => hn 4 h
  | 2 => hn 3 h
  | 3 => (hn 4 h) ^^^ hn 3 h
  | 4 => hn 2 h
  | 5 => (hn 4 h) ^^^ hn 2 h
  | 6 => (hn 3 h) ^^^ hn 2 h
  | 7 => ((hn 4 h) ^^^ hn 3 h) ^^^ hn 2 h
  | 8 => hn 1 h
  | 9 => (hn 4 h) ^^^ hn 1 h
  | 10 => (hn 3 h) ^^^ hn 1 h
  | 11 => ((hn 4 h) ^^^ hn 3 h) ^^^ hn 1 h
  | 12 => (hn 2 h) ^^^ hn 1 h
  | 13 => ((hn 4 h) ^^^ hn 2 h) ^^^ hn 1 h
  | 14 => ((hn 3 h) ^^^ hn 2 h) ^^^ hn 1 h
  | 15 => (((hn 4 h) ^^^ hn 3 h) ^^^ hn 2 h) ^^^ hn 1 h
  | _ => 0#128
def tabC (h : E) : List Value := [Value.int .u64 (B (lo (0#128))), Value.int .u64 (B (hi (0#128))), Value.int .u64 (B (lo (hn 4 h))), Value.int .u64 (B (hi (hn 4 h))), Value.int .u64 (B (lo (hn 3 h))), Value.int .u64 (B (hi (hn 3 h))), Value.int .u64 (B (lo ((hn 4 h) ^^^ hn 3 h))), Value.int .u64 (B (hi ((hn 4 h) ^^^ hn 3 h))), Value.int .u64 (B (lo (hn 2 h))), Value.int .u64 (B (hi (hn 2 h))), Value.int .u64 (B (lo ((hn 4 h) ^^^ hn 2 h))), Value.int .u64 (B (hi ((hn 4 h) ^^^ hn 2 h))), Value.int .u64 (B (lo ((hn 3 h) ^^^ hn 2 h))), Value.int .u64 (B (hi ((hn 3 h) ^^^ hn 2 h))), Value.int .u64 (B (lo (((hn 4 h) ^^^ hn 3 h) ^^^ hn 2 h))), Value.int .u64 (B (hi (((hn 4 h) ^^^ hn 3 h) ^^^ hn 2 h))), Value.int .u64 (B (lo (hn 1 h))), Value.int .u64 (B (hi (hn 1 h))), Value.int .u64 (B (lo ((hn 4 h) ^^^ hn 1 h))), Value.int .u64 (B (hi ((hn 4 h) ^^^ hn 1 h))), Value.int .u64 (B (lo ((hn 3 h) ^^^ hn 1 h))), Value.int .u64 (B (hi ((hn 3 h) ^^^ hn 1 h))), Value.int .u64 (B (lo (((hn 4 h) ^^^ hn 3 h) ^^^ hn 1 h))), Value.int .u64 (B (hi (((hn 4 h) ^^^ hn 3 h) ^^^ hn 1 h))), Value.int .u64 (B (lo ((hn 2 h) ^^^ hn 1 h))), Value.int .u64 (B (hi ((hn 2 h) ^^^ hn 1 h))), Value.int .u64 (B (lo (((hn 4 h) ^^^ hn 2 h) ^^^ hn 1 h))), Value.int .u64 (B (hi (((hn 4 h) ^^^ hn 2 h) ^^^ hn 1 h))), Value.int .u64 (B (lo (((hn 3 h) ^^^ hn 2 h) ^^^ hn 1 h))), Value.int .u64 (B (hi (((hn 3 h) ^^^ hn 2 h) ^^^ hn 1 h))), Value.int .u64 (B (lo ((((hn 4 h) ^^^ hn 3 h) ^^^ hn 2 h) ^^^ hn 1 h))), Value.int .u64 (B (hi ((((hn 4 h) ^^^ hn 3 h) ^^^ hn 2 h) ^^^ hn 1 h)))]
end Go.Proofs.YtfdkdbbigpphcaaDoor.Ab
