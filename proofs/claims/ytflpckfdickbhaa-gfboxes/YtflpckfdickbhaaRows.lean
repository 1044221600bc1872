/-
  No cell of these rows narrows 'for every input' (looked for: loops, veiled, ifaces, maps, wideKeys, modest, calm, conditions, laid).
  DERIVED. THE GIVEN ROWS OF THIS SEAT. 8 by the template 'for every input the law returns true; each argument reads behind the call as it read before'; 0 by the template 'total and deterministic' (their statements: YtflpckfdickbhaaTotals.lean).
  GIVEN WITH THE SEED: the statements are not yours to turn. If you find one false, say at which input.
  Laid BY PROGRAM, IN A SANDBOX (cutbox-rows.mjs): the forced cells as the released guide's own fill.sh prints them over the translation a12ef9da13fb30c2… (all of the seat's roots in one cut). By AI agents, Wed Nov 11 2026. No macro, syntax, notation, axiom, sorry.
-/
import Derived.Test.YtflpckfdickbhaaChecked
import GoSem.Claim
import GoSem.ClaimJoined
import GoSem.ClaimMapViews
import Derived.JoinedTies
import Derived.KernelRfl
namespace Go.Proofs.Ytflpckfdickbhaa
/- THE CELL 'sum', in the pinned program and in every row, IS THE sha256 OF THE DUMP (.gsa) THAT YtflpckfdickbhaaProg.lean LOADS. Nothing in Lean hashes anything: it is a label: what it is worth is what the hold of that sum in a sandbox is worth. -/
noncomputable def Try.pinned : Pinned := { name := "ytflpckfdickbhaa", sum := "a12ef9da13fb30c2b6f6ed410e954552e47d947957026fb81367097d101e0baa", checked := Try.checked }
namespace Rows
def none {H : Type} : Left H := { results := [], args := [] }

/-- 'wringerlaw02.GfTimes': WHATEVER THE INPUT: true; the input reads as it did. -/
def gfTimesSpec : ChangeSpec := { name := "gfTimes", fn := fun _ => fun
  | [d1, d2] => { results := [.lit (.bool true)], args := [d1, d2] }
  | _ => none }
def gfTimesRow : OpenClaim := { program := "ytflpckfdickbhaa", sum := "a12ef9da13fb30c2b6f6ed410e954552e47d947957026fb81367097d101e0baa", func := "wringer/wringerlaw02.GfTimes", spec := "gfTimes", apart := false }
def GfTimesSaid : Prop := gfTimesRow.holds Try.pinned (OpenSpec.ofChange gfTimesSpec)

/-- ITS FALSE NEIGHBOUR: 'it returns false'. Refute it at one input. -/
def gfTimesWrong : ChangeSpec := { name := "gfTimes", fn := fun _ => fun
  | [d1, d2] => { results := [.lit (.bool false)], args := [d1, d2] }
  | _ => none }
def GfTimesWrongFalsely : Prop := gfTimesRow.holds Try.pinned (OpenSpec.ofChange gfTimesWrong)

/-- 'wringerlaw02.GfPowers': WHATEVER THE INPUT: true; the input reads as it did. -/
def gfPowersSpec : ChangeSpec := { name := "gfPowers", fn := fun _ => fun
  | [d1, d2] => { results := [.lit (.bool true)], args := [d1, d2] }
  | _ => none }
def gfPowersRow : OpenClaim := { program := "ytflpckfdickbhaa", sum := "a12ef9da13fb30c2b6f6ed410e954552e47d947957026fb81367097d101e0baa", func := "wringer/wringerlaw02.GfPowers", spec := "gfPowers", apart := false }
def GfPowersSaid : Prop := gfPowersRow.holds Try.pinned (OpenSpec.ofChange gfPowersSpec)

/-- ITS FALSE NEIGHBOUR: 'it returns false'. Refute it at one input. -/
def gfPowersWrong : ChangeSpec := { name := "gfPowers", fn := fun _ => fun
  | [d1, d2] => { results := [.lit (.bool false)], args := [d1, d2] }
  | _ => none }
def GfPowersWrongFalsely : Prop := gfPowersRow.holds Try.pinned (OpenSpec.ofChange gfPowersWrong)

/-- 'wringerlaw02.GfBoxes': WHATEVER THE INPUT: true; the input reads as it did. -/
def gfBoxesSpec : ChangeSpec := { name := "gfBoxes", fn := fun _ => fun
  | [d] => { results := [.lit (.bool true)], args := [d] }
  | _ => none }
def gfBoxesRow : OpenClaim := { program := "ytflpckfdickbhaa", sum := "a12ef9da13fb30c2b6f6ed410e954552e47d947957026fb81367097d101e0baa", func := "wringer/wringerlaw02.GfBoxes", spec := "gfBoxes", apart := false }
def GfBoxesSaid : Prop := gfBoxesRow.holds Try.pinned (OpenSpec.ofChange gfBoxesSpec)

/-- ITS FALSE NEIGHBOUR: 'it returns false'. Refute it at one input. -/
def gfBoxesWrong : ChangeSpec := { name := "gfBoxes", fn := fun _ => fun
  | [d] => { results := [.lit (.bool false)], args := [d] }
  | _ => none }
def GfBoxesWrongFalsely : Prop := gfBoxesRow.holds Try.pinned (OpenSpec.ofChange gfBoxesWrong)

/-- 'wringerlaw02.GfRing': WHATEVER THE INPUT: true; the input reads as it did. -/
def gfRingSpec : ChangeSpec := { name := "gfRing", fn := fun _ => fun
  | [d1, d2, d3] => { results := [.lit (.bool true)], args := [d1, d2, d3] }
  | _ => none }
def gfRingRow : OpenClaim := { program := "ytflpckfdickbhaa", sum := "a12ef9da13fb30c2b6f6ed410e954552e47d947957026fb81367097d101e0baa", func := "wringer/wringerlaw02.GfRing", spec := "gfRing", apart := false }
def GfRingSaid : Prop := gfRingRow.holds Try.pinned (OpenSpec.ofChange gfRingSpec)

/-- ITS FALSE NEIGHBOUR: 'it returns false'. Refute it at one input. -/
def gfRingWrong : ChangeSpec := { name := "gfRing", fn := fun _ => fun
  | [d1, d2, d3] => { results := [.lit (.bool false)], args := [d1, d2, d3] }
  | _ => none }
def GfRingWrongFalsely : Prop := gfRingRow.holds Try.pinned (OpenSpec.ofChange gfRingWrong)

/-- 'wringerlaw02.GfField': WHATEVER THE INPUT: true; the input reads as it did. -/
def gfFieldSpec : ChangeSpec := { name := "gfField", fn := fun _ => fun
  | [d1, d2] => { results := [.lit (.bool true)], args := [d1, d2] }
  | _ => none }
def gfFieldRow : OpenClaim := { program := "ytflpckfdickbhaa", sum := "a12ef9da13fb30c2b6f6ed410e954552e47d947957026fb81367097d101e0baa", func := "wringer/wringerlaw02.GfField", spec := "gfField", apart := false }
def GfFieldSaid : Prop := gfFieldRow.holds Try.pinned (OpenSpec.ofChange gfFieldSpec)

/-- ITS FALSE NEIGHBOUR: 'it returns false'. Refute it at one input. -/
def gfFieldWrong : ChangeSpec := { name := "gfField", fn := fun _ => fun
  | [d1, d2] => { results := [.lit (.bool false)], args := [d1, d2] }
  | _ => none }
def GfFieldWrongFalsely : Prop := gfFieldRow.holds Try.pinned (OpenSpec.ofChange gfFieldWrong)

/-- 'wringerlaw02.GfBack': WHATEVER THE INPUT: true; the input reads as it did. -/
def gfBackSpec : ChangeSpec := { name := "gfBack", fn := fun _ => fun
  | [d1, d2] => { results := [.lit (.bool true)], args := [d1, d2] }
  | _ => none }
def gfBackRow : OpenClaim := { program := "ytflpckfdickbhaa", sum := "a12ef9da13fb30c2b6f6ed410e954552e47d947957026fb81367097d101e0baa", func := "wringer/wringerlaw02.GfBack", spec := "gfBack", apart := false }
def GfBackSaid : Prop := gfBackRow.holds Try.pinned (OpenSpec.ofChange gfBackSpec)

/-- ITS FALSE NEIGHBOUR: 'it returns false'. Refute it at one input. -/
def gfBackWrong : ChangeSpec := { name := "gfBack", fn := fun _ => fun
  | [d1, d2] => { results := [.lit (.bool false)], args := [d1, d2] }
  | _ => none }
def GfBackWrongFalsely : Prop := gfBackRow.holds Try.pinned (OpenSpec.ofChange gfBackWrong)

/-- 'wringerlaw02.GfRounds': WHATEVER THE INPUT: true; the input reads as it did. -/
def gfRoundsSpec : ChangeSpec := { name := "gfRounds", fn := fun _ => fun
  | [d1, d2, d3] => { results := [.lit (.bool true)], args := [d1, d2, d3] }
  | _ => none }
def gfRoundsRow : OpenClaim := { program := "ytflpckfdickbhaa", sum := "a12ef9da13fb30c2b6f6ed410e954552e47d947957026fb81367097d101e0baa", func := "wringer/wringerlaw02.GfRounds", spec := "gfRounds", apart := false }
def GfRoundsSaid : Prop := gfRoundsRow.holds Try.pinned (OpenSpec.ofChange gfRoundsSpec)

/-- ITS FALSE NEIGHBOUR: 'it returns false'. Refute it at one input. -/
def gfRoundsWrong : ChangeSpec := { name := "gfRounds", fn := fun _ => fun
  | [d1, d2, d3] => { results := [.lit (.bool false)], args := [d1, d2, d3] }
  | _ => none }
def GfRoundsWrongFalsely : Prop := gfRoundsRow.holds Try.pinned (OpenSpec.ofChange gfRoundsWrong)

/-- 'wringerlaw02.GfDoubles': WHATEVER THE INPUT: true; the input reads as it did. -/
def gfDoublesSpec : ChangeSpec := { name := "gfDoubles", fn := fun _ => fun
  | [d1, d2] => { results := [.lit (.bool true)], args := [d1, d2] }
  | _ => none }
def gfDoublesRow : OpenClaim := { program := "ytflpckfdickbhaa", sum := "a12ef9da13fb30c2b6f6ed410e954552e47d947957026fb81367097d101e0baa", func := "wringer/wringerlaw02.GfDoubles", spec := "gfDoubles", apart := false }
def GfDoublesSaid : Prop := gfDoublesRow.holds Try.pinned (OpenSpec.ofChange gfDoublesSpec)

/-- ITS FALSE NEIGHBOUR: 'it returns false'. Refute it at one input. -/
def gfDoublesWrong : ChangeSpec := { name := "gfDoubles", fn := fun _ => fun
  | [d1, d2] => { results := [.lit (.bool false)], args := [d1, d2] }
  | _ => none }
def GfDoublesWrongFalsely : Prop := gfDoublesRow.holds Try.pinned (OpenSpec.ofChange gfDoublesWrong)

/- THE SECOND FORM. 'bulk': how many values and letters a reading holds, each counted each time it is reached (what is shared counts as often as it is met; a slice's spare places count too). A statement '..UptoSaid' is the law's where the arguments, and the package variables that the reading takes, are together of bulk at most 1048576: NARROWER than '..Said'. Prove '..Said' where nothing that the law and all that it calls make is longer than what came in: it says more and counts as full. Else prove '..UptoSaid'. A law counts once. -/
mutual
def uptoBulk {H : Type} : DataW H → Nat
  | .lit (.string bytes) => bytes.length + 1
  | .lit _ => 1
  | .nil => 1
  | .ptr d => uptoBulk d + 1
  | .slice elems spare => uptoBulkAll elems + uptoBulkAll spare + 1
  | .agg parts => uptoBulkAll parts + 1
  | .iface _ d => uptoBulk d + 1
  | .map entries => uptoBulkEntries entries + 1
  | .held _ => 1
def uptoBulkAll {H : Type} : List (DataW H) → Nat
  | [] => 0
  | d :: r => uptoBulk d + uptoBulkAll r
def uptoBulkEntries {H : Type} : List (Lit × DataW H) → Nat
  | [] => 0
  | x :: r => uptoBulkEntry x + uptoBulkEntries r
def uptoBulkEntry {H : Type} : Lit × DataW H → Nat
  | (.string bytes, d) => bytes.length + uptoBulk d + 1
  | (_, d) => uptoBulk d + 1
 end
def uptoSmall : (H : Type) → List (DataW H) → Bool := fun _ ds => decide (uptoBulkAll ds ≤ 1048576)
def OpenSpec.upto (s : _root_.Go.ChangeSpec) : _root_.Go.OpenSpec := { _root_.Go.OpenSpec.ofChange s with cond := some uptoSmall }

/-- 'wringerlaw02.GfTimes', WHERE WHAT IT READS IS OF BULK AT MOST 1048576: true; the input reads as it did. -/
def gfTimesUptoRow : OpenClaim := { program := "ytflpckfdickbhaa", sum := "a12ef9da13fb30c2b6f6ed410e954552e47d947957026fb81367097d101e0baa", func := "wringer/wringerlaw02.GfTimes", spec := "gfTimes", apart := false, narrowed := true }
def GfTimesUptoSaid : Prop := gfTimesUptoRow.holds Try.pinned (OpenSpec.upto gfTimesSpec)

/-- 'wringerlaw02.GfPowers', WHERE WHAT IT READS IS OF BULK AT MOST 1048576: true; the input reads as it did. -/
def gfPowersUptoRow : OpenClaim := { program := "ytflpckfdickbhaa", sum := "a12ef9da13fb30c2b6f6ed410e954552e47d947957026fb81367097d101e0baa", func := "wringer/wringerlaw02.GfPowers", spec := "gfPowers", apart := false, narrowed := true }
def GfPowersUptoSaid : Prop := gfPowersUptoRow.holds Try.pinned (OpenSpec.upto gfPowersSpec)

/-- 'wringerlaw02.GfBoxes', WHERE WHAT IT READS IS OF BULK AT MOST 1048576: true; the input reads as it did. -/
def gfBoxesUptoRow : OpenClaim := { program := "ytflpckfdickbhaa", sum := "a12ef9da13fb30c2b6f6ed410e954552e47d947957026fb81367097d101e0baa", func := "wringer/wringerlaw02.GfBoxes", spec := "gfBoxes", apart := false, narrowed := true }
def GfBoxesUptoSaid : Prop := gfBoxesUptoRow.holds Try.pinned (OpenSpec.upto gfBoxesSpec)

/-- 'wringerlaw02.GfRing', WHERE WHAT IT READS IS OF BULK AT MOST 1048576: true; the input reads as it did. -/
def gfRingUptoRow : OpenClaim := { program := "ytflpckfdickbhaa", sum := "a12ef9da13fb30c2b6f6ed410e954552e47d947957026fb81367097d101e0baa", func := "wringer/wringerlaw02.GfRing", spec := "gfRing", apart := false, narrowed := true }
def GfRingUptoSaid : Prop := gfRingUptoRow.holds Try.pinned (OpenSpec.upto gfRingSpec)

/-- 'wringerlaw02.GfField', WHERE WHAT IT READS IS OF BULK AT MOST 1048576: true; the input reads as it did. -/
def gfFieldUptoRow : OpenClaim := { program := "ytflpckfdickbhaa", sum := "a12ef9da13fb30c2b6f6ed410e954552e47d947957026fb81367097d101e0baa", func := "wringer/wringerlaw02.GfField", spec := "gfField", apart := false, narrowed := true }
def GfFieldUptoSaid : Prop := gfFieldUptoRow.holds Try.pinned (OpenSpec.upto gfFieldSpec)

/-- 'wringerlaw02.GfBack', WHERE WHAT IT READS IS OF BULK AT MOST 1048576: true; the input reads as it did. -/
def gfBackUptoRow : OpenClaim := { program := "ytflpckfdickbhaa", sum := "a12ef9da13fb30c2b6f6ed410e954552e47d947957026fb81367097d101e0baa", func := "wringer/wringerlaw02.GfBack", spec := "gfBack", apart := false, narrowed := true }
def GfBackUptoSaid : Prop := gfBackUptoRow.holds Try.pinned (OpenSpec.upto gfBackSpec)

/-- 'wringerlaw02.GfRounds', WHERE WHAT IT READS IS OF BULK AT MOST 1048576: true; the input reads as it did. -/
def gfRoundsUptoRow : OpenClaim := { program := "ytflpckfdickbhaa", sum := "a12ef9da13fb30c2b6f6ed410e954552e47d947957026fb81367097d101e0baa", func := "wringer/wringerlaw02.GfRounds", spec := "gfRounds", apart := false, narrowed := true }
def GfRoundsUptoSaid : Prop := gfRoundsUptoRow.holds Try.pinned (OpenSpec.upto gfRoundsSpec)

/-- 'wringerlaw02.GfDoubles', WHERE WHAT IT READS IS OF BULK AT MOST 1048576: true; the input reads as it did. -/
def gfDoublesUptoRow : OpenClaim := { program := "ytflpckfdickbhaa", sum := "a12ef9da13fb30c2b6f6ed410e954552e47d947957026fb81367097d101e0baa", func := "wringer/wringerlaw02.GfDoubles", spec := "gfDoubles", apart := false, narrowed := true }
def GfDoublesUptoSaid : Prop := gfDoublesUptoRow.holds Try.pinned (OpenSpec.upto gfDoublesSpec)

end Rows
end Go.Proofs.Ytflpckfdickbhaa
