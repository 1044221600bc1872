/-
  DERIVED. GIVEN WITH THE SEED: THE CARDS: each row of YtfdkdbbigpphcaaDoorRows.lean that lists a variable, with what it lists TIED to the program's text (the seventh form; the later family's looks); each row that meets fmt, with fmt's text TOLD by the authors' own Lean function (tested against real Go, not proved from fmt's source: count such statements apart). THE CARD IS WHAT COUNTS. Prove the row's statement (the work); the ties are given (YtfdkdbbigpphcaaDoorTie.lean); close each card by the builder's one call (the guide's Derived/Test/ToyasCard.lean, 'card_holds'). Laid BY PROGRAM, IN A SANDBOX (cutbox-door.mjs). By AI agents, Wed Nov 11 2026. No macro, syntax, notation, axiom, sorry.
-/
import Derived.Test.YtfdkdbbigpphcaaDoorRows
import GoSem.ClaimSeven
namespace Go.Proofs.YtfdkdbbigpphcaaDoor
namespace Rows

/-- THE TIED CARD OF 'wringerlaw15.EzkeyKeys'. -/
def ezkeyKeysCard : Claim7 := { stood := { row := ezkeyKeysRow, standIns := [], harness := (true, "845919cc7cb7d6d5993df5f91dd6e8cecb7882d32a06ebb72d13354da8ff6e2c"), looks := false }, kinds := [], alts := [], laidByText := true, laidKinds := [.data, .data, .data, .data], laidTests := true, laidLooks := .later }
def EzkeyKeysCardSaid : Prop := Claim7.holds Tryd.pinned (.plain (OpenSpec.ofChange ezkeyKeysSpec)) ezkeyKeysCard

/-- THE TIED CARD OF 'wringerlaw15.EzkeyBlocks'. -/
def ezkeyBlocksCard : Claim7 := { stood := { row := ezkeyBlocksRow, standIns := [], harness := (true, "845919cc7cb7d6d5993df5f91dd6e8cecb7882d32a06ebb72d13354da8ff6e2c"), looks := false }, kinds := [], alts := [], laidByText := true, laidKinds := [.data, .data, .data, .data], laidTests := true, laidLooks := .later }
def EzkeyBlocksCardSaid : Prop := Claim7.holds Tryd.pinned (.plain (OpenSpec.ofChange ezkeyBlocksSpec)) ezkeyBlocksCard

/-- THE TIED CARD OF 'wringerlaw15.EzkeyApart'. -/
def ezkeyApartCard : Claim7 := { stood := { row := ezkeyApartRow, standIns := [], harness := (true, "845919cc7cb7d6d5993df5f91dd6e8cecb7882d32a06ebb72d13354da8ff6e2c"), looks := false }, kinds := [], alts := [], laidByText := true, laidKinds := [.data, .data, .data, .data], laidTests := true, laidLooks := .later }
def EzkeyApartCardSaid : Prop := Claim7.holds Tryd.pinned (.plain (OpenSpec.ofChange ezkeyApartSpec)) ezkeyApartCard

/-- THE TIED CARD OF 'wringerlaw15.EzkeyShift'. -/
def ezkeyShiftCard : Claim7 := { stood := { row := ezkeyShiftRow, standIns := [], harness := (true, "845919cc7cb7d6d5993df5f91dd6e8cecb7882d32a06ebb72d13354da8ff6e2c"), looks := false }, kinds := [], alts := [], laidByText := true, laidKinds := [.data, .data, .data, .data], laidTests := true, laidLooks := .later }
def EzkeyShiftCardSaid : Prop := Claim7.holds Tryd.pinned (.plain (OpenSpec.ofChange ezkeyShiftSpec)) ezkeyShiftCard

/-- THE TIED CARD OF 'wringerlaw15.EzkeyTen'. -/
def ezkeyTenCard : Claim7 := { stood := { row := ezkeyTenRow, standIns := [], harness := (true, "845919cc7cb7d6d5993df5f91dd6e8cecb7882d32a06ebb72d13354da8ff6e2c"), looks := false }, kinds := [], alts := [], laidByText := true, laidKinds := [.data, .data, .data, .data], laidTests := true, laidLooks := .later }
def EzkeyTenCardSaid : Prop := Claim7.holds Tryd.pinned (.plain (OpenSpec.ofChange ezkeyTenSpec)) ezkeyTenCard

/-- THE TIED CARD OF 'wringerlaw15.EzkeyOffsets'. -/
def ezkeyOffsetsCard : Claim7 := { stood := { row := ezkeyOffsetsRow, standIns := [], harness := (true, "845919cc7cb7d6d5993df5f91dd6e8cecb7882d32a06ebb72d13354da8ff6e2c"), looks := false }, kinds := [], alts := [], laidByText := true, laidKinds := [.data, .data, .data, .data], laidTests := true, laidLooks := .later }
def EzkeyOffsetsCardSaid : Prop := Claim7.holds Tryd.pinned (.plain (OpenSpec.ofChange ezkeyOffsetsSpec)) ezkeyOffsetsCard

/-- THE TIED CARD OF 'wringerlaw15.EzkeyRow'. -/
def ezkeyRowCard : Claim7 := { stood := { row := ezkeyRowRow, standIns := [], harness := (true, "845919cc7cb7d6d5993df5f91dd6e8cecb7882d32a06ebb72d13354da8ff6e2c"), looks := false }, kinds := [], alts := [], laidByText := true, laidKinds := [.data, .data, .data, .data], laidTests := true, laidLooks := .later }
def EzkeyRowCardSaid : Prop := Claim7.holds Tryd.pinned (.plain (OpenSpec.ofChange ezkeyRowSpec)) ezkeyRowCard

/-- THE SECOND FORM's CARD OF 'wringerlaw15.EzkeyKeys'. -/
def ezkeyKeysUptoCard : Claim7 := { stood := { row := ezkeyKeysUptoRow, standIns := [], harness := (true, "845919cc7cb7d6d5993df5f91dd6e8cecb7882d32a06ebb72d13354da8ff6e2c"), looks := false }, kinds := [], alts := [], laidByText := true, laidKinds := [.data, .data, .data, .data], laidTests := true, laidLooks := .later }
def EzkeyKeysUptoCardSaid : Prop := Claim7.holds Tryd.pinned (.plain (OpenSpec.upto ezkeyKeysSpec)) ezkeyKeysUptoCard

/-- THE SECOND FORM's CARD OF 'wringerlaw15.EzkeyBlocks'. -/
def ezkeyBlocksUptoCard : Claim7 := { stood := { row := ezkeyBlocksUptoRow, standIns := [], harness := (true, "845919cc7cb7d6d5993df5f91dd6e8cecb7882d32a06ebb72d13354da8ff6e2c"), looks := false }, kinds := [], alts := [], laidByText := true, laidKinds := [.data, .data, .data, .data], laidTests := true, laidLooks := .later }
def EzkeyBlocksUptoCardSaid : Prop := Claim7.holds Tryd.pinned (.plain (OpenSpec.upto ezkeyBlocksSpec)) ezkeyBlocksUptoCard

/-- THE SECOND FORM's CARD OF 'wringerlaw15.EzkeyApart'. -/
def ezkeyApartUptoCard : Claim7 := { stood := { row := ezkeyApartUptoRow, standIns := [], harness := (true, "845919cc7cb7d6d5993df5f91dd6e8cecb7882d32a06ebb72d13354da8ff6e2c"), looks := false }, kinds := [], alts := [], laidByText := true, laidKinds := [.data, .data, .data, .data], laidTests := true, laidLooks := .later }
def EzkeyApartUptoCardSaid : Prop := Claim7.holds Tryd.pinned (.plain (OpenSpec.upto ezkeyApartSpec)) ezkeyApartUptoCard

/-- THE SECOND FORM's CARD OF 'wringerlaw15.EzkeyShift'. -/
def ezkeyShiftUptoCard : Claim7 := { stood := { row := ezkeyShiftUptoRow, standIns := [], harness := (true, "845919cc7cb7d6d5993df5f91dd6e8cecb7882d32a06ebb72d13354da8ff6e2c"), looks := false }, kinds := [], alts := [], laidByText := true, laidKinds := [.data, .data, .data, .data], laidTests := true, laidLooks := .later }
def EzkeyShiftUptoCardSaid : Prop := Claim7.holds Tryd.pinned (.plain (OpenSpec.upto ezkeyShiftSpec)) ezkeyShiftUptoCard

/-- THE SECOND FORM's CARD OF 'wringerlaw15.EzkeyTen'. -/
def ezkeyTenUptoCard : Claim7 := { stood := { row := ezkeyTenUptoRow, standIns := [], harness := (true, "845919cc7cb7d6d5993df5f91dd6e8cecb7882d32a06ebb72d13354da8ff6e2c"), looks := false }, kinds := [], alts := [], laidByText := true, laidKinds := [.data, .data, .data, .data], laidTests := true, laidLooks := .later }
def EzkeyTenUptoCardSaid : Prop := Claim7.holds Tryd.pinned (.plain (OpenSpec.upto ezkeyTenSpec)) ezkeyTenUptoCard

/-- THE SECOND FORM's CARD OF 'wringerlaw15.EzkeyOffsets'. -/
def ezkeyOffsetsUptoCard : Claim7 := { stood := { row := ezkeyOffsetsUptoRow, standIns := [], harness := (true, "845919cc7cb7d6d5993df5f91dd6e8cecb7882d32a06ebb72d13354da8ff6e2c"), looks := false }, kinds := [], alts := [], laidByText := true, laidKinds := [.data, .data, .data, .data], laidTests := true, laidLooks := .later }
def EzkeyOffsetsUptoCardSaid : Prop := Claim7.holds Tryd.pinned (.plain (OpenSpec.upto ezkeyOffsetsSpec)) ezkeyOffsetsUptoCard

/-- THE SECOND FORM's CARD OF 'wringerlaw15.EzkeyRow'. -/
def ezkeyRowUptoCard : Claim7 := { stood := { row := ezkeyRowUptoRow, standIns := [], harness := (true, "845919cc7cb7d6d5993df5f91dd6e8cecb7882d32a06ebb72d13354da8ff6e2c"), looks := false }, kinds := [], alts := [], laidByText := true, laidKinds := [.data, .data, .data, .data], laidTests := true, laidLooks := .later }
def EzkeyRowUptoCardSaid : Prop := Claim7.holds Tryd.pinned (.plain (OpenSpec.upto ezkeyRowSpec)) ezkeyRowUptoCard
end Rows
end Go.Proofs.YtfdkdbbigpphcaaDoor
