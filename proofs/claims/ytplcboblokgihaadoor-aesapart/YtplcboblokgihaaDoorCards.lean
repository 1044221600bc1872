/-
  DERIVED. GIVEN WITH THE SEED: THE CARDS: each row of YtplcboblokgihaaDoorRows.lean that lists a variable, with what it lists TIED to the program's text (the seventh form; the later family's looks); each row that meets fmt, with fmt's text TOLD by the authors' own Lean function (tested against real Go, not proved from fmt's source: count such statements apart). THE CARD IS WHAT COUNTS. Prove the row's statement (the work); the ties are given (YtplcboblokgihaaDoorTie.lean); close each card by the builder's one call (the guide's Derived/Test/ToyasCard.lean, 'card_holds'). Laid BY PROGRAM, IN A SANDBOX (cutbox-door.mjs). By AI agents, Wed Nov 11 2026. No macro, syntax, notation, axiom, sorry.
-/
import Derived.Test.YtplcboblokgihaaDoorRows
import GoSem.ClaimSeven
namespace Go.Proofs.YtplcboblokgihaaDoor
namespace Rows

/-- THE TIED CARD OF 'wringerlaw04.AesSchedules'. -/
def aesSchedulesCard : Claim7 := { stood := { row := aesSchedulesRow, standIns := [], harness := (true, "c8dbf1753b0355a0f7bdcab21bfdff2bfd597141917ba565804f5befd8ddd46f"), looks := false }, kinds := [], alts := [], laidByText := true, laidKinds := [.data, .data], laidTests := true, laidLooks := .later }
def AesSchedulesCardSaid : Prop := Claim7.holds Tryd.pinned (.plain (OpenSpec.ofChange aesSchedulesSpec)) aesSchedulesCard

/-- THE TIED CARD OF 'wringerlaw04.AesBlocks'. -/
def aesBlocksCard : Claim7 := { stood := { row := aesBlocksRow, standIns := [], harness := (true, "c8dbf1753b0355a0f7bdcab21bfdff2bfd597141917ba565804f5befd8ddd46f"), looks := false }, kinds := [], alts := [], laidByText := true, laidKinds := [.data, .data], laidTests := true, laidLooks := .later }
def AesBlocksCardSaid : Prop := Claim7.holds Tryd.pinned (.plain (OpenSpec.ofChange aesBlocksSpec)) aesBlocksCard

/-- THE TIED CARD OF 'wringerlaw04.AesBack'. -/
def aesBackCard : Claim7 := { stood := { row := aesBackRow, standIns := [], harness := (true, "c8dbf1753b0355a0f7bdcab21bfdff2bfd597141917ba565804f5befd8ddd46f"), looks := false }, kinds := [], alts := [], laidByText := true, laidKinds := [.data, .data], laidTests := true, laidLooks := .later }
def AesBackCardSaid : Prop := Claim7.holds Tryd.pinned (.plain (OpenSpec.ofChange aesBackSpec)) aesBackCard

/-- THE TIED CARD OF 'wringerlaw04.AesApart'. -/
def aesApartCard : Claim7 := { stood := { row := aesApartRow, standIns := [], harness := (true, "c8dbf1753b0355a0f7bdcab21bfdff2bfd597141917ba565804f5befd8ddd46f"), looks := false }, kinds := [], alts := [], laidByText := true, laidKinds := [.data, .data], laidTests := true, laidLooks := .later }
def AesApartCardSaid : Prop := Claim7.holds Tryd.pinned (.plain (OpenSpec.ofChange aesApartSpec)) aesApartCard

/-- THE TIED CARD OF 'wringerlaw04.AesMade'. -/
def aesMadeCard : Claim7 := { stood := { row := aesMadeRow, standIns := [], harness := (true, "c8dbf1753b0355a0f7bdcab21bfdff2bfd597141917ba565804f5befd8ddd46f"), looks := false }, kinds := [], alts := [], laidByText := true, laidKinds := [.data, .data], laidTests := true, laidLooks := .later }
def AesMadeCardSaid : Prop := Claim7.holds Tryd.pinned (.plain (OpenSpec.ofChange aesMadeSpec)) aesMadeCard

/-- THE TIED CARD OF 'wringerlaw04.AesFirst'. -/
def aesFirstCard : Claim7 := { stood := { row := aesFirstRow, standIns := [], harness := (true, "c8dbf1753b0355a0f7bdcab21bfdff2bfd597141917ba565804f5befd8ddd46f"), looks := false }, kinds := [], alts := [], laidByText := true, laidKinds := [.data, .data], laidTests := true, laidLooks := .later }
def AesFirstCardSaid : Prop := Claim7.holds Tryd.pinned (.plain (OpenSpec.ofChange aesFirstSpec)) aesFirstCard

/-- THE TIED CARD OF 'wringerlaw04.AesWords'. -/
def aesWordsCard : Claim7 := { stood := { row := aesWordsRow, standIns := [], harness := (true, "c8dbf1753b0355a0f7bdcab21bfdff2bfd597141917ba565804f5befd8ddd46f"), looks := false }, kinds := [], alts := [], laidByText := true, laidKinds := [.data, .data], laidTests := true, laidLooks := .later }
def AesWordsCardSaid : Prop := Claim7.holds Tryd.pinned (.plain (OpenSpec.ofChange aesWordsSpec)) aesWordsCard

/-- THE SECOND FORM's CARD OF 'wringerlaw04.AesSchedules'. -/
def aesSchedulesUptoCard : Claim7 := { stood := { row := aesSchedulesUptoRow, standIns := [], harness := (true, "c8dbf1753b0355a0f7bdcab21bfdff2bfd597141917ba565804f5befd8ddd46f"), looks := false }, kinds := [], alts := [], laidByText := true, laidKinds := [.data, .data], laidTests := true, laidLooks := .later }
def AesSchedulesUptoCardSaid : Prop := Claim7.holds Tryd.pinned (.plain (OpenSpec.upto aesSchedulesSpec)) aesSchedulesUptoCard

/-- THE SECOND FORM's CARD OF 'wringerlaw04.AesBlocks'. -/
def aesBlocksUptoCard : Claim7 := { stood := { row := aesBlocksUptoRow, standIns := [], harness := (true, "c8dbf1753b0355a0f7bdcab21bfdff2bfd597141917ba565804f5befd8ddd46f"), looks := false }, kinds := [], alts := [], laidByText := true, laidKinds := [.data, .data], laidTests := true, laidLooks := .later }
def AesBlocksUptoCardSaid : Prop := Claim7.holds Tryd.pinned (.plain (OpenSpec.upto aesBlocksSpec)) aesBlocksUptoCard

/-- THE SECOND FORM's CARD OF 'wringerlaw04.AesBack'. -/
def aesBackUptoCard : Claim7 := { stood := { row := aesBackUptoRow, standIns := [], harness := (true, "c8dbf1753b0355a0f7bdcab21bfdff2bfd597141917ba565804f5befd8ddd46f"), looks := false }, kinds := [], alts := [], laidByText := true, laidKinds := [.data, .data], laidTests := true, laidLooks := .later }
def AesBackUptoCardSaid : Prop := Claim7.holds Tryd.pinned (.plain (OpenSpec.upto aesBackSpec)) aesBackUptoCard

/-- THE SECOND FORM's CARD OF 'wringerlaw04.AesApart'. -/
def aesApartUptoCard : Claim7 := { stood := { row := aesApartUptoRow, standIns := [], harness := (true, "c8dbf1753b0355a0f7bdcab21bfdff2bfd597141917ba565804f5befd8ddd46f"), looks := false }, kinds := [], alts := [], laidByText := true, laidKinds := [.data, .data], laidTests := true, laidLooks := .later }
def AesApartUptoCardSaid : Prop := Claim7.holds Tryd.pinned (.plain (OpenSpec.upto aesApartSpec)) aesApartUptoCard

/-- THE SECOND FORM's CARD OF 'wringerlaw04.AesMade'. -/
def aesMadeUptoCard : Claim7 := { stood := { row := aesMadeUptoRow, standIns := [], harness := (true, "c8dbf1753b0355a0f7bdcab21bfdff2bfd597141917ba565804f5befd8ddd46f"), looks := false }, kinds := [], alts := [], laidByText := true, laidKinds := [.data, .data], laidTests := true, laidLooks := .later }
def AesMadeUptoCardSaid : Prop := Claim7.holds Tryd.pinned (.plain (OpenSpec.upto aesMadeSpec)) aesMadeUptoCard

/-- THE SECOND FORM's CARD OF 'wringerlaw04.AesFirst'. -/
def aesFirstUptoCard : Claim7 := { stood := { row := aesFirstUptoRow, standIns := [], harness := (true, "c8dbf1753b0355a0f7bdcab21bfdff2bfd597141917ba565804f5befd8ddd46f"), looks := false }, kinds := [], alts := [], laidByText := true, laidKinds := [.data, .data], laidTests := true, laidLooks := .later }
def AesFirstUptoCardSaid : Prop := Claim7.holds Tryd.pinned (.plain (OpenSpec.upto aesFirstSpec)) aesFirstUptoCard

/-- THE SECOND FORM's CARD OF 'wringerlaw04.AesWords'. -/
def aesWordsUptoCard : Claim7 := { stood := { row := aesWordsUptoRow, standIns := [], harness := (true, "c8dbf1753b0355a0f7bdcab21bfdff2bfd597141917ba565804f5befd8ddd46f"), looks := false }, kinds := [], alts := [], laidByText := true, laidKinds := [.data, .data], laidTests := true, laidLooks := .later }
def AesWordsUptoCardSaid : Prop := Claim7.holds Tryd.pinned (.plain (OpenSpec.upto aesWordsSpec)) aesWordsUptoCard
end Rows
end Go.Proofs.YtplcboblokgihaaDoor
