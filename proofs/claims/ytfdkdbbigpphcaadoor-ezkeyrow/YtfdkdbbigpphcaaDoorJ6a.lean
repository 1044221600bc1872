/- Own: what is asked of a key (no statement is proved here). -/
import Derived.Test.YtfdkdbbigpphcaaDoorJ6
namespace Go.Proofs.YtfdkdbbigpphcaaDoor.Ab
open Go.Proofs Go.RowKit
/-- What is asked: a key, two numbers, a block. -/
abbrev askV (n : Nat) (j i : Int) (f : Nat → Int) : AV := .agg (.sv 0 0 n :: .ex (.int .i64 j) :: .ex (.int .i64 i) :: (ar8 16 f).map .ex)
/-- What a key is, or is not. -/
theorem key_or (bs : List Int) : (bs.length = 0 ∨ 128 < bs.length) ∨ (bs.length ≠ 0 ∧ bs.length ≤ 128) := by omega
end Go.Proofs.YtfdkdbbigpphcaaDoor.Ab
