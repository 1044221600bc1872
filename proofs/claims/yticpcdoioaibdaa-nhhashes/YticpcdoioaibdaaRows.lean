/-
  No cell of these rows narrows 'for every input' (looked for: loops, veiled, ifaces, maps, wideKeys, modest, calm, conditions, laid).
  DERIVED. THE GIVEN ROWS OF THIS SEAT. 6 by the template 'for every input the law returns true; each argument reads behind the call as it read before'; 0 by the template 'total and deterministic' (their statements: YticpcdoioaibdaaTotals.lean).
  GIVEN WITH THE SEED: the statements are not yours to turn. If you find one false, say at which input.
  Laid BY PROGRAM, IN A SANDBOX (cutbox-rows.mjs): the forced cells as the released guide's own fill.sh prints them over the translation b5bbc30ea5b7563c… (all of the seat's roots in one cut). By AI agents, Wed Nov 11 2026. No macro, syntax, notation, axiom, sorry.
-/
import Derived.Test.YticpcdoioaibdaaChecked
import GoSem.Claim
import GoSem.ClaimJoined
import GoSem.ClaimMapViews
import Derived.JoinedTies
import Derived.KernelRfl
namespace Go.Proofs.Yticpcdoioaibdaa
/- THE CELL 'sum', in the pinned program and in every row, IS THE sha256 OF THE DUMP (.gsa) THAT YticpcdoioaibdaaProg.lean LOADS. Nothing in Lean hashes anything: it is a label: what it is worth is what the hold of that sum in a sandbox is worth. -/
noncomputable def Try.pinned : Pinned := { name := "yticpcdoioaibdaa", sum := "b5bbc30ea5b7563ca88131151c4b288e865a53b4d4b8ebcb0b4d0b1934569ffc", checked := Try.checked }
namespace Rows
def none {H : Type} : Left H := { results := [], args := [] }

/-- 'wringerlaw09.NhWords': WHATEVER THE INPUT: true; the input reads as it did. -/
def nhWordsSpec : ChangeSpec := { name := "nhWords", fn := fun _ => fun
  | [d] => { results := [.lit (.bool true)], args := [d] }
  | _ => none }
def nhWordsRow : OpenClaim := { program := "yticpcdoioaibdaa", sum := "b5bbc30ea5b7563ca88131151c4b288e865a53b4d4b8ebcb0b4d0b1934569ffc", func := "wringer/wringerlaw09.NhWords", spec := "nhWords", unfollowed := true, recurses := true, apart := false }
def NhWordsSaid : Prop := nhWordsRow.holds Try.pinned (OpenSpec.ofChange nhWordsSpec)

/-- ITS FALSE NEIGHBOUR: 'it returns false'. Refute it at one input. -/
def nhWordsWrong : ChangeSpec := { name := "nhWords", fn := fun _ => fun
  | [d] => { results := [.lit (.bool false)], args := [d] }
  | _ => none }
def NhWordsWrongFalsely : Prop := nhWordsRow.holds Try.pinned (OpenSpec.ofChange nhWordsWrong)

/-- 'wringerlaw09.NhHashes': WHATEVER THE INPUT: true; the input reads as it did. -/
def nhHashesSpec : ChangeSpec := { name := "nhHashes", fn := fun _ => fun
  | [d1, d2] => { results := [.lit (.bool true)], args := [d1, d2] }
  | _ => none }
def nhHashesRow : OpenClaim := { program := "yticpcdoioaibdaa", sum := "b5bbc30ea5b7563ca88131151c4b288e865a53b4d4b8ebcb0b4d0b1934569ffc", func := "wringer/wringerlaw09.NhHashes", spec := "nhHashes", unfollowed := true, recurses := true, apart := false }
def NhHashesSaid : Prop := nhHashesRow.holds Try.pinned (OpenSpec.ofChange nhHashesSpec)

/-- ITS FALSE NEIGHBOUR: 'it returns false'. Refute it at one input. -/
def nhHashesWrong : ChangeSpec := { name := "nhHashes", fn := fun _ => fun
  | [d1, d2] => { results := [.lit (.bool false)], args := [d1, d2] }
  | _ => none }
def NhHashesWrongFalsely : Prop := nhHashesRow.holds Try.pinned (OpenSpec.ofChange nhHashesWrong)

/-- 'wringerlaw09.NhJoins': WHATEVER THE INPUT: true; the input reads as it did. -/
def nhJoinsSpec : ChangeSpec := { name := "nhJoins", fn := fun _ => fun
  | [d1, d2, d3] => { results := [.lit (.bool true)], args := [d1, d2, d3] }
  | _ => none }
def nhJoinsRow : OpenClaim := { program := "yticpcdoioaibdaa", sum := "b5bbc30ea5b7563ca88131151c4b288e865a53b4d4b8ebcb0b4d0b1934569ffc", func := "wringer/wringerlaw09.NhJoins", spec := "nhJoins", unfollowed := true, recurses := true, apart := false }
def NhJoinsSaid : Prop := nhJoinsRow.holds Try.pinned (OpenSpec.ofChange nhJoinsSpec)

/-- ITS FALSE NEIGHBOUR: 'it returns false'. Refute it at one input. -/
def nhJoinsWrong : ChangeSpec := { name := "nhJoins", fn := fun _ => fun
  | [d1, d2, d3] => { results := [.lit (.bool false)], args := [d1, d2, d3] }
  | _ => none }
def NhJoinsWrongFalsely : Prop := nhJoinsRow.holds Try.pinned (OpenSpec.ofChange nhJoinsWrong)

/-- 'wringerlaw09.NhPasses': WHATEVER THE INPUT: true; the input reads as it did. -/
def nhPassesSpec : ChangeSpec := { name := "nhPasses", fn := fun _ => fun
  | [d1, d2] => { results := [.lit (.bool true)], args := [d1, d2] }
  | _ => none }
def nhPassesRow : OpenClaim := { program := "yticpcdoioaibdaa", sum := "b5bbc30ea5b7563ca88131151c4b288e865a53b4d4b8ebcb0b4d0b1934569ffc", func := "wringer/wringerlaw09.NhPasses", spec := "nhPasses", unfollowed := true, recurses := true, apart := false }
def NhPassesSaid : Prop := nhPassesRow.holds Try.pinned (OpenSpec.ofChange nhPassesSpec)

/-- ITS FALSE NEIGHBOUR: 'it returns false'. Refute it at one input. -/
def nhPassesWrong : ChangeSpec := { name := "nhPasses", fn := fun _ => fun
  | [d1, d2] => { results := [.lit (.bool false)], args := [d1, d2] }
  | _ => none }
def NhPassesWrongFalsely : Prop := nhPassesRow.holds Try.pinned (OpenSpec.ofChange nhPassesWrong)

/-- 'wringerlaw09.NhMore': WHATEVER THE INPUT: true; the input reads as it did. -/
def nhMoreSpec : ChangeSpec := { name := "nhMore", fn := fun _ => fun
  | [d1, d2, d3] => { results := [.lit (.bool true)], args := [d1, d2, d3] }
  | _ => none }
def nhMoreRow : OpenClaim := { program := "yticpcdoioaibdaa", sum := "b5bbc30ea5b7563ca88131151c4b288e865a53b4d4b8ebcb0b4d0b1934569ffc", func := "wringer/wringerlaw09.NhMore", spec := "nhMore", unfollowed := true, recurses := true, apart := false }
def NhMoreSaid : Prop := nhMoreRow.holds Try.pinned (OpenSpec.ofChange nhMoreSpec)

/-- ITS FALSE NEIGHBOUR: 'it returns false'. Refute it at one input. -/
def nhMoreWrong : ChangeSpec := { name := "nhMore", fn := fun _ => fun
  | [d1, d2, d3] => { results := [.lit (.bool false)], args := [d1, d2, d3] }
  | _ => none }
def NhMoreWrongFalsely : Prop := nhMoreRow.holds Try.pinned (OpenSpec.ofChange nhMoreWrong)

/-- 'wringerlaw09.NhSwaps': WHATEVER THE INPUT: true; the input reads as it did. -/
def nhSwapsSpec : ChangeSpec := { name := "nhSwaps", fn := fun _ => fun
  | [d1, d2] => { results := [.lit (.bool true)], args := [d1, d2] }
  | _ => none }
def nhSwapsRow : OpenClaim := { program := "yticpcdoioaibdaa", sum := "b5bbc30ea5b7563ca88131151c4b288e865a53b4d4b8ebcb0b4d0b1934569ffc", func := "wringer/wringerlaw09.NhSwaps", spec := "nhSwaps", unfollowed := true, recurses := true, apart := false }
def NhSwapsSaid : Prop := nhSwapsRow.holds Try.pinned (OpenSpec.ofChange nhSwapsSpec)

/-- ITS FALSE NEIGHBOUR: 'it returns false'. Refute it at one input. -/
def nhSwapsWrong : ChangeSpec := { name := "nhSwaps", fn := fun _ => fun
  | [d1, d2] => { results := [.lit (.bool false)], args := [d1, d2] }
  | _ => none }
def NhSwapsWrongFalsely : Prop := nhSwapsRow.holds Try.pinned (OpenSpec.ofChange nhSwapsWrong)

/- THE SECOND FORM. 'bulk': how many values and letters a reading holds, each counted each time it is reached (what is shared counts as often as it is met; a slice's spare places count too). A statement '..UptoSaid' is the law's where the arguments, and the package variables that the reading takes, are together of bulk at most 1048576: NARROWER than '..Said'. Prove '..Said' where nothing that the law and all that it calls make is longer than what came in: it says more and counts as full. Else prove '..UptoSaid'. A law counts once. -/
mutual
def uptoBulk {H : Type} : DataW H → Nat
  | .lit (.string bytes) => bytes.length + 1
  | .lit _ => 1
  | .nil => 1
  | .ptr d => uptoBulk d + 1
  | .slice elems spare => uptoBulkAll elems + uptoBulkAll spare + 1
  | .agg parts => uptoBulkAll parts + 1
  | .iface _ d => uptoBulk d + 1
  | .map entries => uptoBulkEntries entries + 1
  | .held _ => 1
def uptoBulkAll {H : Type} : List (DataW H) → Nat
  | [] => 0
  | d :: r => uptoBulk d + uptoBulkAll r
def uptoBulkEntries {H : Type} : List (Lit × DataW H) → Nat
  | [] => 0
  | x :: r => uptoBulkEntry x + uptoBulkEntries r
def uptoBulkEntry {H : Type} : Lit × DataW H → Nat
  | (.string bytes, d) => bytes.length + uptoBulk d + 1
  | (_, d) => uptoBulk d + 1
 end
def uptoSmall : (H : Type) → List (DataW H) → Bool := fun _ ds => decide (uptoBulkAll ds ≤ 1048576)
def OpenSpec.upto (s : _root_.Go.ChangeSpec) : _root_.Go.OpenSpec := { _root_.Go.OpenSpec.ofChange s with cond := some uptoSmall }

/-- 'wringerlaw09.NhWords', WHERE WHAT IT READS IS OF BULK AT MOST 1048576: true; the input reads as it did. -/
def nhWordsUptoRow : OpenClaim := { program := "yticpcdoioaibdaa", sum := "b5bbc30ea5b7563ca88131151c4b288e865a53b4d4b8ebcb0b4d0b1934569ffc", func := "wringer/wringerlaw09.NhWords", spec := "nhWords", unfollowed := true, recurses := true, apart := false, narrowed := true }
def NhWordsUptoSaid : Prop := nhWordsUptoRow.holds Try.pinned (OpenSpec.upto nhWordsSpec)

/-- 'wringerlaw09.NhHashes', WHERE WHAT IT READS IS OF BULK AT MOST 1048576: true; the input reads as it did. -/
def nhHashesUptoRow : OpenClaim := { program := "yticpcdoioaibdaa", sum := "b5bbc30ea5b7563ca88131151c4b288e865a53b4d4b8ebcb0b4d0b1934569ffc", func := "wringer/wringerlaw09.NhHashes", spec := "nhHashes", unfollowed := true, recurses := true, apart := false, narrowed := true }
def NhHashesUptoSaid : Prop := nhHashesUptoRow.holds Try.pinned (OpenSpec.upto nhHashesSpec)

/-- 'wringerlaw09.NhJoins', WHERE WHAT IT READS IS OF BULK AT MOST 1048576: true; the input reads as it did. -/
def nhJoinsUptoRow : OpenClaim := { program := "yticpcdoioaibdaa", sum := "b5bbc30ea5b7563ca88131151c4b288e865a53b4d4b8ebcb0b4d0b1934569ffc", func := "wringer/wringerlaw09.NhJoins", spec := "nhJoins", unfollowed := true, recurses := true, apart := false, narrowed := true }
def NhJoinsUptoSaid : Prop := nhJoinsUptoRow.holds Try.pinned (OpenSpec.upto nhJoinsSpec)

/-- 'wringerlaw09.NhPasses', WHERE WHAT IT READS IS OF BULK AT MOST 1048576: true; the input reads as it did. -/
def nhPassesUptoRow : OpenClaim := { program := "yticpcdoioaibdaa", sum := "b5bbc30ea5b7563ca88131151c4b288e865a53b4d4b8ebcb0b4d0b1934569ffc", func := "wringer/wringerlaw09.NhPasses", spec := "nhPasses", unfollowed := true, recurses := true, apart := false, narrowed := true }
def NhPassesUptoSaid : Prop := nhPassesUptoRow.holds Try.pinned (OpenSpec.upto nhPassesSpec)

/-- 'wringerlaw09.NhMore', WHERE WHAT IT READS IS OF BULK AT MOST 1048576: true; the input reads as it did. -/
def nhMoreUptoRow : OpenClaim := { program := "yticpcdoioaibdaa", sum := "b5bbc30ea5b7563ca88131151c4b288e865a53b4d4b8ebcb0b4d0b1934569ffc", func := "wringer/wringerlaw09.NhMore", spec := "nhMore", unfollowed := true, recurses := true, apart := false, narrowed := true }
def NhMoreUptoSaid : Prop := nhMoreUptoRow.holds Try.pinned (OpenSpec.upto nhMoreSpec)

/-- 'wringerlaw09.NhSwaps', WHERE WHAT IT READS IS OF BULK AT MOST 1048576: true; the input reads as it did. -/
def nhSwapsUptoRow : OpenClaim := { program := "yticpcdoioaibdaa", sum := "b5bbc30ea5b7563ca88131151c4b288e865a53b4d4b8ebcb0b4d0b1934569ffc", func := "wringer/wringerlaw09.NhSwaps", spec := "nhSwaps", unfollowed := true, recurses := true, apart := false, narrowed := true }
def NhSwapsUptoSaid : Prop := nhSwapsUptoRow.holds Try.pinned (OpenSpec.upto nhSwapsSpec)

end Rows
end Go.Proofs.Yticpcdoioaibdaa
