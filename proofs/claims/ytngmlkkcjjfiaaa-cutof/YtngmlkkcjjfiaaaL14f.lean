/- Own: how a float is opened (no statement is proved here). -/
import Derived.Test.YtngmlkkcjjfiaaaL14
namespace Go.Proofs.Ytngmlkkcjjfiaaa
open Go.ChangeShapes Go.WideShapes Go.ChangeAt Go.RowKit Go.Joins Ab
set_option maxRecDepth 4000
set_option linter.unusedSimpArgs false
theorem f64_of_trod {H : Type} {enc : TypeId × Value → H} {W : World} {base : Nat} {v : Value} {d : DataW H} {p : List MemPlace} (hv : Value.okWide Try.prog W .any base 34 v)
    (h : DataW.Trod enc Try.prog W 0 (fun _ => true) true 34 v d p) : ∃ b : Nat, v = .float .f64 b := by
  simp only [Value.okWide, Try.underlying34, Cell.okWide] at hv
  cases v <;> simp_all [Cell.ok]

end Go.Proofs.Ytngmlkkcjjfiaaa
