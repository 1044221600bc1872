/-
  DERIVED. GIVEN WITH THE SEED: THE CARDS: each row of YtdgfpcncgeocnaaDoorRows.lean that lists a variable, with what it lists TIED to the program's text (the seventh form; the later family's looks); each row that meets fmt, with fmt's text TOLD by the authors' own Lean function (tested against real Go, not proved from fmt's source: count such statements apart). THE CARD IS WHAT COUNTS. Prove the row's statement (the work); the ties are given (YtdgfpcncgeocnaaDoorTie.lean); close each card by the builder's one call (the guide's Derived/Test/ToyasCard.lean, 'card_holds'). Laid BY PROGRAM, IN A SANDBOX (cutbox-door.mjs). By AI agents, Wed Nov 11 2026. No macro, syntax, notation, axiom, sorry.
-/
import Derived.Test.YtdgfpcncgeocnaaDoorRows
import GoSem.ClaimSeven
namespace Go.Proofs.YtdgfpcncgeocnaaDoor
namespace Rows

/-- THE TIED CARD OF 'wringerlaw05.ChachaMixes'. -/
def chachaMixesCard : Claim7 := { stood := { row := chachaMixesRow, standIns := [], harness := (true, "8a947f56f1b8c4c391ced5ba4d49213ffca36588b1284f873045c7f7e4f60ee0"), looks := false }, kinds := [], alts := [], laidByText := true, laidKinds := [.data], laidTests := true, laidLooks := .later }
def ChachaMixesCardSaid : Prop := Claim7.holds Tryd.pinned (.plain (OpenSpec.ofChange chachaMixesSpec)) chachaMixesCard

/-- THE TIED CARD OF 'wringerlaw05.ChachaBlocks'. -/
def chachaBlocksCard : Claim7 := { stood := { row := chachaBlocksRow, standIns := [], harness := (true, "8a947f56f1b8c4c391ced5ba4d49213ffca36588b1284f873045c7f7e4f60ee0"), looks := false }, kinds := [], alts := [], laidByText := true, laidKinds := [.data], laidTests := true, laidLooks := .later }
def ChachaBlocksCardSaid : Prop := Claim7.holds Tryd.pinned (.plain (OpenSpec.ofChange chachaBlocksSpec)) chachaBlocksCard

/-- THE TIED CARD OF 'wringerlaw05.ChachaCrypts'. -/
def chachaCryptsCard : Claim7 := { stood := { row := chachaCryptsRow, standIns := [], harness := (true, "8a947f56f1b8c4c391ced5ba4d49213ffca36588b1284f873045c7f7e4f60ee0"), looks := false }, kinds := [], alts := [], laidByText := true, laidKinds := [.data], laidTests := true, laidLooks := .later }
def ChachaCryptsCardSaid : Prop := Claim7.holds Tryd.pinned (.plain (OpenSpec.ofChange chachaCryptsSpec)) chachaCryptsCard

/-- THE TIED CARD OF 'wringerlaw05.ChachaBack'. -/
def chachaBackCard : Claim7 := { stood := { row := chachaBackRow, standIns := [], harness := (true, "8a947f56f1b8c4c391ced5ba4d49213ffca36588b1284f873045c7f7e4f60ee0"), looks := false }, kinds := [], alts := [], laidByText := true, laidKinds := [.data], laidTests := true, laidLooks := .later }
def ChachaBackCardSaid : Prop := Claim7.holds Tryd.pinned (.plain (OpenSpec.ofChange chachaBackSpec)) chachaBackCard

/-- THE TIED CARD OF 'wringerlaw05.ChachaApart'. -/
def chachaApartCard : Claim7 := { stood := { row := chachaApartRow, standIns := [], harness := (true, "8a947f56f1b8c4c391ced5ba4d49213ffca36588b1284f873045c7f7e4f60ee0"), looks := false }, kinds := [], alts := [], laidByText := true, laidKinds := [.data], laidTests := true, laidLooks := .later }
def ChachaApartCardSaid : Prop := Claim7.holds Tryd.pinned (.plain (OpenSpec.ofChange chachaApartSpec)) chachaApartCard

/-- THE TIED CARD OF 'wringerlaw05.ChachaRows'. -/
def chachaRowsCard : Claim7 := { stood := { row := chachaRowsRow, standIns := [], harness := (true, "8a947f56f1b8c4c391ced5ba4d49213ffca36588b1284f873045c7f7e4f60ee0"), looks := false }, kinds := [], alts := [], laidByText := true, laidKinds := [.data], laidTests := true, laidLooks := .later }
def ChachaRowsCardSaid : Prop := Claim7.holds Tryd.pinned (.plain (OpenSpec.ofChange chachaRowsSpec)) chachaRowsCard

/-- THE TIED CARD OF 'wringerlaw05.ChachaHalf'. -/
def chachaHalfCard : Claim7 := { stood := { row := chachaHalfRow, standIns := [], harness := (true, "8a947f56f1b8c4c391ced5ba4d49213ffca36588b1284f873045c7f7e4f60ee0"), looks := false }, kinds := [], alts := [], laidByText := true, laidKinds := [.data], laidTests := true, laidLooks := .later }
def ChachaHalfCardSaid : Prop := Claim7.holds Tryd.pinned (.plain (OpenSpec.ofChange chachaHalfSpec)) chachaHalfCard

/-- THE TIED CARD OF 'wringerlaw05.ChachaStream'. -/
def chachaStreamCard : Claim7 := { stood := { row := chachaStreamRow, standIns := [], harness := (true, "8a947f56f1b8c4c391ced5ba4d49213ffca36588b1284f873045c7f7e4f60ee0"), looks := false }, kinds := [], alts := [], laidByText := true, laidKinds := [.data], laidTests := true, laidLooks := .later }
def ChachaStreamCardSaid : Prop := Claim7.holds Tryd.pinned (.plain (OpenSpec.ofChange chachaStreamSpec)) chachaStreamCard

/-- THE TIED CARD OF 'wringerlaw05.ChachaLetters'. -/
def chachaLettersCard : Claim7 := { stood := { row := chachaLettersRow, standIns := [], harness := (true, "8a947f56f1b8c4c391ced5ba4d49213ffca36588b1284f873045c7f7e4f60ee0"), looks := false }, kinds := [], alts := [], laidByText := true, laidKinds := [.data], laidTests := true, laidLooks := .later }
def ChachaLettersCardSaid : Prop := Claim7.holds Tryd.pinned (.plain (OpenSpec.ofChange chachaLettersSpec)) chachaLettersCard

/-- THE SECOND FORM's CARD OF 'wringerlaw05.ChachaMixes'. -/
def chachaMixesUptoCard : Claim7 := { stood := { row := chachaMixesUptoRow, standIns := [], harness := (true, "8a947f56f1b8c4c391ced5ba4d49213ffca36588b1284f873045c7f7e4f60ee0"), looks := false }, kinds := [], alts := [], laidByText := true, laidKinds := [.data], laidTests := true, laidLooks := .later }
def ChachaMixesUptoCardSaid : Prop := Claim7.holds Tryd.pinned (.plain (OpenSpec.upto chachaMixesSpec)) chachaMixesUptoCard

/-- THE SECOND FORM's CARD OF 'wringerlaw05.ChachaBlocks'. -/
def chachaBlocksUptoCard : Claim7 := { stood := { row := chachaBlocksUptoRow, standIns := [], harness := (true, "8a947f56f1b8c4c391ced5ba4d49213ffca36588b1284f873045c7f7e4f60ee0"), looks := false }, kinds := [], alts := [], laidByText := true, laidKinds := [.data], laidTests := true, laidLooks := .later }
def ChachaBlocksUptoCardSaid : Prop := Claim7.holds Tryd.pinned (.plain (OpenSpec.upto chachaBlocksSpec)) chachaBlocksUptoCard

/-- THE SECOND FORM's CARD OF 'wringerlaw05.ChachaCrypts'. -/
def chachaCryptsUptoCard : Claim7 := { stood := { row := chachaCryptsUptoRow, standIns := [], harness := (true, "8a947f56f1b8c4c391ced5ba4d49213ffca36588b1284f873045c7f7e4f60ee0"), looks := false }, kinds := [], alts := [], laidByText := true, laidKinds := [.data], laidTests := true, laidLooks := .later }
def ChachaCryptsUptoCardSaid : Prop := Claim7.holds Tryd.pinned (.plain (OpenSpec.upto chachaCryptsSpec)) chachaCryptsUptoCard

/-- THE SECOND FORM's CARD OF 'wringerlaw05.ChachaBack'. -/
def chachaBackUptoCard : Claim7 := { stood := { row := chachaBackUptoRow, standIns := [], harness := (true, "8a947f56f1b8c4c391ced5ba4d49213ffca36588b1284f873045c7f7e4f60ee0"), looks := false }, kinds := [], alts := [], laidByText := true, laidKinds := [.data], laidTests := true, laidLooks := .later }
def ChachaBackUptoCardSaid : Prop := Claim7.holds Tryd.pinned (.plain (OpenSpec.upto chachaBackSpec)) chachaBackUptoCard

/-- THE SECOND FORM's CARD OF 'wringerlaw05.ChachaApart'. -/
def chachaApartUptoCard : Claim7 := { stood := { row := chachaApartUptoRow, standIns := [], harness := (true, "8a947f56f1b8c4c391ced5ba4d49213ffca36588b1284f873045c7f7e4f60ee0"), looks := false }, kinds := [], alts := [], laidByText := true, laidKinds := [.data], laidTests := true, laidLooks := .later }
def ChachaApartUptoCardSaid : Prop := Claim7.holds Tryd.pinned (.plain (OpenSpec.upto chachaApartSpec)) chachaApartUptoCard

/-- THE SECOND FORM's CARD OF 'wringerlaw05.ChachaRows'. -/
def chachaRowsUptoCard : Claim7 := { stood := { row := chachaRowsUptoRow, standIns := [], harness := (true, "8a947f56f1b8c4c391ced5ba4d49213ffca36588b1284f873045c7f7e4f60ee0"), looks := false }, kinds := [], alts := [], laidByText := true, laidKinds := [.data], laidTests := true, laidLooks := .later }
def ChachaRowsUptoCardSaid : Prop := Claim7.holds Tryd.pinned (.plain (OpenSpec.upto chachaRowsSpec)) chachaRowsUptoCard

/-- THE SECOND FORM's CARD OF 'wringerlaw05.ChachaHalf'. -/
def chachaHalfUptoCard : Claim7 := { stood := { row := chachaHalfUptoRow, standIns := [], harness := (true, "8a947f56f1b8c4c391ced5ba4d49213ffca36588b1284f873045c7f7e4f60ee0"), looks := false }, kinds := [], alts := [], laidByText := true, laidKinds := [.data], laidTests := true, laidLooks := .later }
def ChachaHalfUptoCardSaid : Prop := Claim7.holds Tryd.pinned (.plain (OpenSpec.upto chachaHalfSpec)) chachaHalfUptoCard

/-- THE SECOND FORM's CARD OF 'wringerlaw05.ChachaStream'. -/
def chachaStreamUptoCard : Claim7 := { stood := { row := chachaStreamUptoRow, standIns := [], harness := (true, "8a947f56f1b8c4c391ced5ba4d49213ffca36588b1284f873045c7f7e4f60ee0"), looks := false }, kinds := [], alts := [], laidByText := true, laidKinds := [.data], laidTests := true, laidLooks := .later }
def ChachaStreamUptoCardSaid : Prop := Claim7.holds Tryd.pinned (.plain (OpenSpec.upto chachaStreamSpec)) chachaStreamUptoCard

/-- THE SECOND FORM's CARD OF 'wringerlaw05.ChachaLetters'. -/
def chachaLettersUptoCard : Claim7 := { stood := { row := chachaLettersUptoRow, standIns := [], harness := (true, "8a947f56f1b8c4c391ced5ba4d49213ffca36588b1284f873045c7f7e4f60ee0"), looks := false }, kinds := [], alts := [], laidByText := true, laidKinds := [.data], laidTests := true, laidLooks := .later }
def ChachaLettersUptoCardSaid : Prop := Claim7.holds Tryd.pinned (.plain (OpenSpec.upto chachaLettersSpec)) chachaLettersUptoCard
end Rows
end Go.Proofs.YtdgfpcncgeocnaaDoor
