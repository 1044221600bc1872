/-
  DERIVED. GIVEN WITH THE SEED: THE CARDS: each row of YtdfbcdgneboilaaDoorRows.lean that lists a variable, with what it lists TIED to the program's text (the seventh form; the later family's looks); each row that meets fmt, with fmt's text TOLD by the authors' own Lean function (tested against real Go, not proved from fmt's source: count such statements apart). THE CARD IS WHAT COUNTS. Prove the row's statement (the work); the ties are given (YtdfbcdgneboilaaDoorTie.lean); close each card by the builder's one call (the guide's Derived/Test/ToyasCard.lean, 'card_holds'). Laid BY PROGRAM, IN A SANDBOX (cutbox-door.mjs). By AI agents, Wed Nov 11 2026. No macro, syntax, notation, axiom, sorry.
-/
import Derived.Test.YtdfbcdgneboilaaDoorRows
import GoSem.ClaimSeven
namespace Go.Proofs.YtdfbcdgneboilaaDoor
namespace Rows

/-- THE TIED CARD OF 'wringerlaw18.HctrKeys'. -/
def hctrKeysCard : Claim7 := { stood := { row := hctrKeysRow, standIns := [], harness := (true, "c4e1b8086ff50d0634ed08bfa86d99c0137b85eba38cf7b368b9b9e6a2ba89c5"), looks := false }, kinds := [], alts := [], laidByText := true, laidKinds := [.data, .data], laidTests := true, laidLooks := .later }
def HctrKeysCardSaid : Prop := Claim7.holds Tryd.pinned (.plain (OpenSpec.ofChange hctrKeysSpec)) hctrKeysCard

/-- THE TIED CARD OF 'wringerlaw18.HctrBack'. -/
def hctrBackCard : Claim7 := { stood := { row := hctrBackRow, standIns := [], harness := (true, "c4e1b8086ff50d0634ed08bfa86d99c0137b85eba38cf7b368b9b9e6a2ba89c5"), looks := false }, kinds := [], alts := [], laidByText := true, laidKinds := [.data, .data], laidTests := true, laidLooks := .later }
def HctrBackCardSaid : Prop := Claim7.holds Tryd.pinned (.plain (OpenSpec.ofChange hctrBackSpec)) hctrBackCard

/-- THE TIED CARD OF 'wringerlaw18.HctrApart'. -/
def hctrApartCard : Claim7 := { stood := { row := hctrApartRow, standIns := [], harness := (true, "c4e1b8086ff50d0634ed08bfa86d99c0137b85eba38cf7b368b9b9e6a2ba89c5"), looks := false }, kinds := [], alts := [], laidByText := true, laidKinds := [.data, .data], laidTests := true, laidLooks := .later }
def HctrApartCardSaid : Prop := Claim7.holds Tryd.pinned (.plain (OpenSpec.ofChange hctrApartSpec)) hctrApartCard

/-- THE TIED CARD OF 'wringerlaw18.HctrSteps'. -/
def hctrStepsCard : Claim7 := { stood := { row := hctrStepsRow, standIns := [], harness := (true, "c4e1b8086ff50d0634ed08bfa86d99c0137b85eba38cf7b368b9b9e6a2ba89c5"), looks := false }, kinds := [], alts := [], laidByText := true, laidKinds := [.data, .data], laidTests := true, laidLooks := .later }
def HctrStepsCardSaid : Prop := Claim7.holds Tryd.pinned (.plain (OpenSpec.ofChange hctrStepsSpec)) hctrStepsCard

/-- THE TIED CARD OF 'wringerlaw18.HctrLeft'. -/
def hctrLeftCard : Claim7 := { stood := { row := hctrLeftRow, standIns := [], harness := (true, "c4e1b8086ff50d0634ed08bfa86d99c0137b85eba38cf7b368b9b9e6a2ba89c5"), looks := false }, kinds := [], alts := [], laidByText := true, laidKinds := [.data, .data], laidTests := true, laidLooks := .later }
def HctrLeftCardSaid : Prop := Claim7.holds Tryd.pinned (.plain (OpenSpec.ofChange hctrLeftSpec)) hctrLeftCard

/-- THE SECOND FORM's CARD OF 'wringerlaw18.HctrKeys'. -/
def hctrKeysUptoCard : Claim7 := { stood := { row := hctrKeysUptoRow, standIns := [], harness := (true, "c4e1b8086ff50d0634ed08bfa86d99c0137b85eba38cf7b368b9b9e6a2ba89c5"), looks := false }, kinds := [], alts := [], laidByText := true, laidKinds := [.data, .data], laidTests := true, laidLooks := .later }
def HctrKeysUptoCardSaid : Prop := Claim7.holds Tryd.pinned (.plain (OpenSpec.upto hctrKeysSpec)) hctrKeysUptoCard

/-- THE SECOND FORM's CARD OF 'wringerlaw18.HctrBack'. -/
def hctrBackUptoCard : Claim7 := { stood := { row := hctrBackUptoRow, standIns := [], harness := (true, "c4e1b8086ff50d0634ed08bfa86d99c0137b85eba38cf7b368b9b9e6a2ba89c5"), looks := false }, kinds := [], alts := [], laidByText := true, laidKinds := [.data, .data], laidTests := true, laidLooks := .later }
def HctrBackUptoCardSaid : Prop := Claim7.holds Tryd.pinned (.plain (OpenSpec.upto hctrBackSpec)) hctrBackUptoCard

/-- THE SECOND FORM's CARD OF 'wringerlaw18.HctrApart'. -/
def hctrApartUptoCard : Claim7 := { stood := { row := hctrApartUptoRow, standIns := [], harness := (true, "c4e1b8086ff50d0634ed08bfa86d99c0137b85eba38cf7b368b9b9e6a2ba89c5"), looks := false }, kinds := [], alts := [], laidByText := true, laidKinds := [.data, .data], laidTests := true, laidLooks := .later }
def HctrApartUptoCardSaid : Prop := Claim7.holds Tryd.pinned (.plain (OpenSpec.upto hctrApartSpec)) hctrApartUptoCard

/-- THE SECOND FORM's CARD OF 'wringerlaw18.HctrSteps'. -/
def hctrStepsUptoCard : Claim7 := { stood := { row := hctrStepsUptoRow, standIns := [], harness := (true, "c4e1b8086ff50d0634ed08bfa86d99c0137b85eba38cf7b368b9b9e6a2ba89c5"), looks := false }, kinds := [], alts := [], laidByText := true, laidKinds := [.data, .data], laidTests := true, laidLooks := .later }
def HctrStepsUptoCardSaid : Prop := Claim7.holds Tryd.pinned (.plain (OpenSpec.upto hctrStepsSpec)) hctrStepsUptoCard

/-- THE SECOND FORM's CARD OF 'wringerlaw18.HctrLeft'. -/
def hctrLeftUptoCard : Claim7 := { stood := { row := hctrLeftUptoRow, standIns := [], harness := (true, "c4e1b8086ff50d0634ed08bfa86d99c0137b85eba38cf7b368b9b9e6a2ba89c5"), looks := false }, kinds := [], alts := [], laidByText := true, laidKinds := [.data, .data], laidTests := true, laidLooks := .later }
def HctrLeftUptoCardSaid : Prop := Claim7.holds Tryd.pinned (.plain (OpenSpec.upto hctrLeftSpec)) hctrLeftUptoCard
end Rows
end Go.Proofs.YtdfbcdgneboilaaDoor
