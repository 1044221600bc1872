/-
  DERIVED. GIVEN WITH THE SEED: THE CARDS: each row of YtenjcieaoedfaaaDoorRows.lean that lists a variable, with what it lists TIED to the program's text (the seventh form; the later family's looks); each row that meets fmt, with fmt's text TOLD by the authors' own Lean function (tested against real Go, not proved from fmt's source: count such statements apart). THE CARD IS WHAT COUNTS. Prove the row's statement (the work); the ties are given (YtenjcieaoedfaaaDoorTie.lean); close each card by the builder's one call (the guide's Derived/Test/ToyasCard.lean, 'card_holds'). Laid BY PROGRAM, IN A SANDBOX (cutbox-door.mjs). By AI agents, Wed Nov 11 2026. No macro, syntax, notation, axiom, sorry.
-/
import Derived.Test.YtenjcieaoedfaaaDoorRows
import GoSem.ClaimSeven
namespace Go.Proofs.YtenjcieaoedfaaaDoor
namespace Rows

/-- THE TIED CARD OF 'wringerlaw06.BlakeParts'. -/
def blakePartsCard : Claim7 := { stood := { row := blakePartsRow, standIns := [], harness := (true, "17fee7acd2b8034b8823a142d4ba6ab659d9508a031606a2bf9c27664c5c0ced"), looks := false }, kinds := [], alts := [], laidByText := true, laidKinds := [.data, .data], laidTests := true, laidLooks := .later }
def BlakePartsCardSaid : Prop := Claim7.holds Tryd.pinned (.plain (OpenSpec.ofChange blakePartsSpec)) blakePartsCard

/-- THE TIED CARD OF 'wringerlaw06.BlakeKept'. -/
def blakeKeptCard : Claim7 := { stood := { row := blakeKeptRow, standIns := [], harness := (true, "17fee7acd2b8034b8823a142d4ba6ab659d9508a031606a2bf9c27664c5c0ced"), looks := false }, kinds := [], alts := [], laidByText := true, laidKinds := [.data, .data], laidTests := true, laidLooks := .later }
def BlakeKeptCardSaid : Prop := Claim7.holds Tryd.pinned (.plain (OpenSpec.ofChange blakeKeptSpec)) blakeKeptCard

/-- THE SECOND FORM's CARD OF 'wringerlaw06.BlakeParts'. -/
def blakePartsUptoCard : Claim7 := { stood := { row := blakePartsUptoRow, standIns := [], harness := (true, "17fee7acd2b8034b8823a142d4ba6ab659d9508a031606a2bf9c27664c5c0ced"), looks := false }, kinds := [], alts := [], laidByText := true, laidKinds := [.data, .data], laidTests := true, laidLooks := .later }
def BlakePartsUptoCardSaid : Prop := Claim7.holds Tryd.pinned (.plain (OpenSpec.upto blakePartsSpec)) blakePartsUptoCard

/-- THE SECOND FORM's CARD OF 'wringerlaw06.BlakeKept'. -/
def blakeKeptUptoCard : Claim7 := { stood := { row := blakeKeptUptoRow, standIns := [], harness := (true, "17fee7acd2b8034b8823a142d4ba6ab659d9508a031606a2bf9c27664c5c0ced"), looks := false }, kinds := [], alts := [], laidByText := true, laidKinds := [.data, .data], laidTests := true, laidLooks := .later }
def BlakeKeptUptoCardSaid : Prop := Claim7.holds Tryd.pinned (.plain (OpenSpec.upto blakeKeptSpec)) blakeKeptUptoCard
end Rows
end Go.Proofs.YtenjcieaoedfaaaDoor
