/-
  DERIVED. GIVEN WITH THE SEED: THE CARDS: each row of YtaabchkhflpndaaDoorRows.lean that lists a variable, with what it lists TIED to the program's text (the seventh form; the later family's looks); each row that meets fmt, with fmt's text TOLD by the authors' own Lean function (tested against real Go, not proved from fmt's source: count such statements apart). THE CARD IS WHAT COUNTS. Prove the row's statement (the work); the ties are given (YtaabchkhflpndaaDoorTie.lean); close each card by the builder's one call (the guide's Derived/Test/ToyasCard.lean, 'card_holds'). Laid BY PROGRAM, IN A SANDBOX (cutbox-door.mjs). By AI agents, Wed Nov 11 2026. No macro, syntax, notation, axiom, sorry.
-/
import Derived.Test.YtaabchkhflpndaaDoorRows
import GoSem.ClaimSeven
namespace Go.Proofs.YtaabchkhflpndaaDoor
namespace Rows

/-- THE TIED CARD OF 'wringerlaw06.BlakeCompresses'. -/
def blakeCompressesCard : Claim7 := { stood := { row := blakeCompressesRow, standIns := [], harness := (true, "3410fd5906f9c29e4937ce11332c3070c243e6ca426f3a4161675919d03248b6"), looks := false }, kinds := [], alts := [], laidByText := true, laidKinds := [.data, .data], laidTests := true, laidLooks := .later }
def BlakeCompressesCardSaid : Prop := Claim7.holds Tryd.pinned (.plain (OpenSpec.ofChange blakeCompressesSpec)) blakeCompressesCard

/-- THE TIED CARD OF 'wringerlaw06.BlakeSums'. -/
def blakeSumsCard : Claim7 := { stood := { row := blakeSumsRow, standIns := [], harness := (true, "3410fd5906f9c29e4937ce11332c3070c243e6ca426f3a4161675919d03248b6"), looks := false }, kinds := [], alts := [], laidByText := true, laidKinds := [.data, .data], laidTests := true, laidLooks := .later }
def BlakeSumsCardSaid : Prop := Claim7.holds Tryd.pinned (.plain (OpenSpec.ofChange blakeSumsSpec)) blakeSumsCard

/-- THE TIED CARD OF 'wringerlaw06.BlakeParts'. -/
def blakePartsCard : Claim7 := { stood := { row := blakePartsRow, standIns := [], harness := (true, "3410fd5906f9c29e4937ce11332c3070c243e6ca426f3a4161675919d03248b6"), looks := false }, kinds := [], alts := [], laidByText := true, laidKinds := [.data, .data], laidTests := true, laidLooks := .later }
def BlakePartsCardSaid : Prop := Claim7.holds Tryd.pinned (.plain (OpenSpec.ofChange blakePartsSpec)) blakePartsCard

/-- THE TIED CARD OF 'wringerlaw06.BlakeKept'. -/
def blakeKeptCard : Claim7 := { stood := { row := blakeKeptRow, standIns := [], harness := (true, "3410fd5906f9c29e4937ce11332c3070c243e6ca426f3a4161675919d03248b6"), looks := false }, kinds := [], alts := [], laidByText := true, laidKinds := [.data, .data], laidTests := true, laidLooks := .later }
def BlakeKeptCardSaid : Prop := Claim7.holds Tryd.pinned (.plain (OpenSpec.ofChange blakeKeptSpec)) blakeKeptCard

/-- THE TIED CARD OF 'wringerlaw06.BlakeChain'. -/
def blakeChainCard : Claim7 := { stood := { row := blakeChainRow, standIns := [], harness := (true, "3410fd5906f9c29e4937ce11332c3070c243e6ca426f3a4161675919d03248b6"), looks := false }, kinds := [], alts := [], laidByText := true, laidKinds := [.data, .data], laidTests := true, laidLooks := .later }
def BlakeChainCardSaid : Prop := Claim7.holds Tryd.pinned (.plain (OpenSpec.ofChange blakeChainSpec)) blakeChainCard

/-- THE SECOND FORM's CARD OF 'wringerlaw06.BlakeCompresses'. -/
def blakeCompressesUptoCard : Claim7 := { stood := { row := blakeCompressesUptoRow, standIns := [], harness := (true, "3410fd5906f9c29e4937ce11332c3070c243e6ca426f3a4161675919d03248b6"), looks := false }, kinds := [], alts := [], laidByText := true, laidKinds := [.data, .data], laidTests := true, laidLooks := .later }
def BlakeCompressesUptoCardSaid : Prop := Claim7.holds Tryd.pinned (.plain (OpenSpec.upto blakeCompressesSpec)) blakeCompressesUptoCard

/-- THE SECOND FORM's CARD OF 'wringerlaw06.BlakeSums'. -/
def blakeSumsUptoCard : Claim7 := { stood := { row := blakeSumsUptoRow, standIns := [], harness := (true, "3410fd5906f9c29e4937ce11332c3070c243e6ca426f3a4161675919d03248b6"), looks := false }, kinds := [], alts := [], laidByText := true, laidKinds := [.data, .data], laidTests := true, laidLooks := .later }
def BlakeSumsUptoCardSaid : Prop := Claim7.holds Tryd.pinned (.plain (OpenSpec.upto blakeSumsSpec)) blakeSumsUptoCard

/-- THE SECOND FORM's CARD OF 'wringerlaw06.BlakeParts'. -/
def blakePartsUptoCard : Claim7 := { stood := { row := blakePartsUptoRow, standIns := [], harness := (true, "3410fd5906f9c29e4937ce11332c3070c243e6ca426f3a4161675919d03248b6"), looks := false }, kinds := [], alts := [], laidByText := true, laidKinds := [.data, .data], laidTests := true, laidLooks := .later }
def BlakePartsUptoCardSaid : Prop := Claim7.holds Tryd.pinned (.plain (OpenSpec.upto blakePartsSpec)) blakePartsUptoCard

/-- THE SECOND FORM's CARD OF 'wringerlaw06.BlakeKept'. -/
def blakeKeptUptoCard : Claim7 := { stood := { row := blakeKeptUptoRow, standIns := [], harness := (true, "3410fd5906f9c29e4937ce11332c3070c243e6ca426f3a4161675919d03248b6"), looks := false }, kinds := [], alts := [], laidByText := true, laidKinds := [.data, .data], laidTests := true, laidLooks := .later }
def BlakeKeptUptoCardSaid : Prop := Claim7.holds Tryd.pinned (.plain (OpenSpec.upto blakeKeptSpec)) blakeKeptUptoCard

/-- THE SECOND FORM's CARD OF 'wringerlaw06.BlakeChain'. -/
def blakeChainUptoCard : Claim7 := { stood := { row := blakeChainUptoRow, standIns := [], harness := (true, "3410fd5906f9c29e4937ce11332c3070c243e6ca426f3a4161675919d03248b6"), looks := false }, kinds := [], alts := [], laidByText := true, laidKinds := [.data, .data], laidTests := true, laidLooks := .later }
def BlakeChainUptoCardSaid : Prop := Claim7.holds Tryd.pinned (.plain (OpenSpec.upto blakeChainSpec)) blakeChainUptoCard
end Rows
end Go.Proofs.YtaabchkhflpndaaDoor
