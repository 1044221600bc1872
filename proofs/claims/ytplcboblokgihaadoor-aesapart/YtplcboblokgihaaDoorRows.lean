/-
  NARROWER THAN 'FOR EVERY INPUT', by the rows' own cells (each row's printed sentence says how): AesSchedules: laid · AesBlocks: laid · AesBack: laid · AesApart: laid · AesMade: laid · AesFirst: laid · AesWords: laid.
  DERIVED. THE GIVEN ROWS OF THIS SEAT. 7 by the template 'for every input the law returns true; each argument reads behind the call as it read before'; 0 by the template 'total and deterministic' (their statements: YtplcboblokgihaaDoorTotals.lean).
  GIVEN WITH THE SEED: the statements are not yours to turn. If you find one false, say at which input.
  Laid BY PROGRAM, IN A SANDBOX (cutbox-rows.mjs): the forced cells as the released guide's own fill.sh prints them over the translation 26cd5c6d4e6b3887… (all of the seat's roots in one cut). By AI agents, Wed Nov 11 2026. No macro, syntax, notation, axiom, sorry.
-/
import Derived.Test.YtplcboblokgihaaDoorChecked
import GoSem.Claim
import GoSem.ClaimJoined
import GoSem.ClaimMapViews
import Derived.JoinedTies
import Derived.KernelRfl
namespace Go.Proofs.YtplcboblokgihaaDoor
/- THE CELL 'sum', in the pinned program and in every row, IS THE sha256 OF THE DUMP (.gsa) THAT YtplcboblokgihaaDoorProg.lean LOADS. Nothing in Lean hashes anything: it is a label: what it is worth is what the hold of that sum in a sandbox is worth. -/
noncomputable def Tryd.pinned : Pinned := { name := "ytplcboblokgihaadoor", sum := "26cd5c6d4e6b3887ce141e99555237481d153ce32a7a350328bde4405bf2f2b3", checked := Tryd.checked }
namespace Rows
def none {H : Type} : Left H := { results := [], args := [] }

/- WHAT THE LISTED PACKAGE-LEVEL VARIABLES READ AS WHEN THE CALL BEGINS. Each datum BY PROGRAM (the guide's laid-datum.mjs) off the statement by which the dump's own 'gosem.cut.vars' lays the variable. In a bare row this is a premise. The card (YtplcboblokgihaaDoorCards.lean) ties it to the program's text. -/
def laid_wringer_turn_mixing {H : Type} : DataW H := .agg [.agg [.lit (.int .u8 2), .lit (.int .u8 3), .lit (.int .u8 1), .lit (.int .u8 1)], .agg [.lit (.int .u8 1), .lit (.int .u8 2), .lit (.int .u8 3), .lit (.int .u8 1)], .agg [.lit (.int .u8 1), .lit (.int .u8 1), .lit (.int .u8 2), .lit (.int .u8 3)], .agg [.lit (.int .u8 3), .lit (.int .u8 1), .lit (.int .u8 1), .lit (.int .u8 2)]]
def laid_wringer_turn_unmixing {H : Type} : DataW H := .agg [.agg [.lit (.int .u8 14), .lit (.int .u8 11), .lit (.int .u8 13), .lit (.int .u8 9)], .agg [.lit (.int .u8 9), .lit (.int .u8 14), .lit (.int .u8 11), .lit (.int .u8 13)], .agg [.lit (.int .u8 13), .lit (.int .u8 9), .lit (.int .u8 14), .lit (.int .u8 11)], .agg [.lit (.int .u8 11), .lit (.int .u8 13), .lit (.int .u8 9), .lit (.int .u8 14)]]

/-- 'wringerlaw04.AesSchedules': WHATEVER THE INPUT: true; the input reads as it did. -/
def aesSchedulesSpec : ChangeSpec := { name := "aesSchedules", fn := fun _ => fun
  | [d1, d2] => { results := [.lit (.bool true)], args := [d1, d2] }
  | _ => none }
def aesSchedulesRow : OpenClaim := { program := "ytplcboblokgihaadoor", sum := "26cd5c6d4e6b3887ce141e99555237481d153ce32a7a350328bde4405bf2f2b3", func := "wringer/wringerlaw04.AesSchedules", spec := "aesSchedules", unfollowed := true, recurses := true, named := ["wringer/turn.mixing", "wringer/turn.unmixing"], apart := false, laid := [("wringer/turn.mixing", laid_wringer_turn_mixing), ("wringer/turn.unmixing", laid_wringer_turn_unmixing)] }
def AesSchedulesSaid : Prop := aesSchedulesRow.holds Tryd.pinned (OpenSpec.ofChange aesSchedulesSpec)

/-- ITS FALSE NEIGHBOUR: 'it returns false'. Refute it at one input. -/
def aesSchedulesWrong : ChangeSpec := { name := "aesSchedules", fn := fun _ => fun
  | [d1, d2] => { results := [.lit (.bool false)], args := [d1, d2] }
  | _ => none }
def AesSchedulesWrongFalsely : Prop := aesSchedulesRow.holds Tryd.pinned (OpenSpec.ofChange aesSchedulesWrong)

/-- 'wringerlaw04.AesBlocks': WHATEVER THE INPUT: true; the input reads as it did. -/
def aesBlocksSpec : ChangeSpec := { name := "aesBlocks", fn := fun _ => fun
  | [d1, d2] => { results := [.lit (.bool true)], args := [d1, d2] }
  | _ => none }
def aesBlocksRow : OpenClaim := { program := "ytplcboblokgihaadoor", sum := "26cd5c6d4e6b3887ce141e99555237481d153ce32a7a350328bde4405bf2f2b3", func := "wringer/wringerlaw04.AesBlocks", spec := "aesBlocks", unfollowed := true, recurses := true, named := ["wringer/turn.mixing", "wringer/turn.unmixing"], apart := false, laid := [("wringer/turn.mixing", laid_wringer_turn_mixing), ("wringer/turn.unmixing", laid_wringer_turn_unmixing)] }
def AesBlocksSaid : Prop := aesBlocksRow.holds Tryd.pinned (OpenSpec.ofChange aesBlocksSpec)

/-- ITS FALSE NEIGHBOUR: 'it returns false'. Refute it at one input. -/
def aesBlocksWrong : ChangeSpec := { name := "aesBlocks", fn := fun _ => fun
  | [d1, d2] => { results := [.lit (.bool false)], args := [d1, d2] }
  | _ => none }
def AesBlocksWrongFalsely : Prop := aesBlocksRow.holds Tryd.pinned (OpenSpec.ofChange aesBlocksWrong)

/-- 'wringerlaw04.AesBack': WHATEVER THE INPUT: true; the input reads as it did. -/
def aesBackSpec : ChangeSpec := { name := "aesBack", fn := fun _ => fun
  | [d1, d2] => { results := [.lit (.bool true)], args := [d1, d2] }
  | _ => none }
def aesBackRow : OpenClaim := { program := "ytplcboblokgihaadoor", sum := "26cd5c6d4e6b3887ce141e99555237481d153ce32a7a350328bde4405bf2f2b3", func := "wringer/wringerlaw04.AesBack", spec := "aesBack", unfollowed := true, recurses := true, named := ["wringer/turn.mixing", "wringer/turn.unmixing"], apart := false, laid := [("wringer/turn.mixing", laid_wringer_turn_mixing), ("wringer/turn.unmixing", laid_wringer_turn_unmixing)] }
def AesBackSaid : Prop := aesBackRow.holds Tryd.pinned (OpenSpec.ofChange aesBackSpec)

/-- ITS FALSE NEIGHBOUR: 'it returns false'. Refute it at one input. -/
def aesBackWrong : ChangeSpec := { name := "aesBack", fn := fun _ => fun
  | [d1, d2] => { results := [.lit (.bool false)], args := [d1, d2] }
  | _ => none }
def AesBackWrongFalsely : Prop := aesBackRow.holds Tryd.pinned (OpenSpec.ofChange aesBackWrong)

/-- 'wringerlaw04.AesApart': WHATEVER THE INPUT: true; the input reads as it did. -/
def aesApartSpec : ChangeSpec := { name := "aesApart", fn := fun _ => fun
  | [d1, d2, d3] => { results := [.lit (.bool true)], args := [d1, d2, d3] }
  | _ => none }
def aesApartRow : OpenClaim := { program := "ytplcboblokgihaadoor", sum := "26cd5c6d4e6b3887ce141e99555237481d153ce32a7a350328bde4405bf2f2b3", func := "wringer/wringerlaw04.AesApart", spec := "aesApart", unfollowed := true, recurses := true, named := ["wringer/turn.mixing", "wringer/turn.unmixing"], apart := false, laid := [("wringer/turn.mixing", laid_wringer_turn_mixing), ("wringer/turn.unmixing", laid_wringer_turn_unmixing)] }
def AesApartSaid : Prop := aesApartRow.holds Tryd.pinned (OpenSpec.ofChange aesApartSpec)

/-- ITS FALSE NEIGHBOUR: 'it returns false'. Refute it at one input. -/
def aesApartWrong : ChangeSpec := { name := "aesApart", fn := fun _ => fun
  | [d1, d2, d3] => { results := [.lit (.bool false)], args := [d1, d2, d3] }
  | _ => none }
def AesApartWrongFalsely : Prop := aesApartRow.holds Tryd.pinned (OpenSpec.ofChange aesApartWrong)

/-- 'wringerlaw04.AesMade': WHATEVER THE INPUT: true; the input reads as it did. -/
def aesMadeSpec : ChangeSpec := { name := "aesMade", fn := fun _ => fun
  | [d1, d2] => { results := [.lit (.bool true)], args := [d1, d2] }
  | _ => none }
def aesMadeRow : OpenClaim := { program := "ytplcboblokgihaadoor", sum := "26cd5c6d4e6b3887ce141e99555237481d153ce32a7a350328bde4405bf2f2b3", func := "wringer/wringerlaw04.AesMade", spec := "aesMade", unfollowed := true, recurses := true, named := ["wringer/turn.mixing", "wringer/turn.unmixing"], apart := false, laid := [("wringer/turn.mixing", laid_wringer_turn_mixing), ("wringer/turn.unmixing", laid_wringer_turn_unmixing)] }
def AesMadeSaid : Prop := aesMadeRow.holds Tryd.pinned (OpenSpec.ofChange aesMadeSpec)

/-- ITS FALSE NEIGHBOUR: 'it returns false'. Refute it at one input. -/
def aesMadeWrong : ChangeSpec := { name := "aesMade", fn := fun _ => fun
  | [d1, d2] => { results := [.lit (.bool false)], args := [d1, d2] }
  | _ => none }
def AesMadeWrongFalsely : Prop := aesMadeRow.holds Tryd.pinned (OpenSpec.ofChange aesMadeWrong)

/-- 'wringerlaw04.AesFirst': WHATEVER THE INPUT: true; the input reads as it did. -/
def aesFirstSpec : ChangeSpec := { name := "aesFirst", fn := fun _ => fun
  | [d] => { results := [.lit (.bool true)], args := [d] }
  | _ => none }
def aesFirstRow : OpenClaim := { program := "ytplcboblokgihaadoor", sum := "26cd5c6d4e6b3887ce141e99555237481d153ce32a7a350328bde4405bf2f2b3", func := "wringer/wringerlaw04.AesFirst", spec := "aesFirst", unfollowed := true, recurses := true, named := ["wringer/turn.mixing", "wringer/turn.unmixing"], apart := false, laid := [("wringer/turn.mixing", laid_wringer_turn_mixing), ("wringer/turn.unmixing", laid_wringer_turn_unmixing)] }
def AesFirstSaid : Prop := aesFirstRow.holds Tryd.pinned (OpenSpec.ofChange aesFirstSpec)

/-- ITS FALSE NEIGHBOUR: 'it returns false'. Refute it at one input. -/
def aesFirstWrong : ChangeSpec := { name := "aesFirst", fn := fun _ => fun
  | [d] => { results := [.lit (.bool false)], args := [d] }
  | _ => none }
def AesFirstWrongFalsely : Prop := aesFirstRow.holds Tryd.pinned (OpenSpec.ofChange aesFirstWrong)

/-- 'wringerlaw04.AesWords': WHATEVER THE INPUT: true; the input reads as it did. -/
def aesWordsSpec : ChangeSpec := { name := "aesWords", fn := fun _ => fun
  | [d1, d2] => { results := [.lit (.bool true)], args := [d1, d2] }
  | _ => none }
def aesWordsRow : OpenClaim := { program := "ytplcboblokgihaadoor", sum := "26cd5c6d4e6b3887ce141e99555237481d153ce32a7a350328bde4405bf2f2b3", func := "wringer/wringerlaw04.AesWords", spec := "aesWords", unfollowed := true, recurses := true, named := ["wringer/turn.mixing", "wringer/turn.unmixing"], apart := false, laid := [("wringer/turn.mixing", laid_wringer_turn_mixing), ("wringer/turn.unmixing", laid_wringer_turn_unmixing)] }
def AesWordsSaid : Prop := aesWordsRow.holds Tryd.pinned (OpenSpec.ofChange aesWordsSpec)

/-- ITS FALSE NEIGHBOUR: 'it returns false'. Refute it at one input. -/
def aesWordsWrong : ChangeSpec := { name := "aesWords", fn := fun _ => fun
  | [d1, d2] => { results := [.lit (.bool false)], args := [d1, d2] }
  | _ => none }
def AesWordsWrongFalsely : Prop := aesWordsRow.holds Tryd.pinned (OpenSpec.ofChange aesWordsWrong)

/- THE SECOND FORM. 'bulk': how many values and letters a reading holds, each counted each time it is reached (what is shared counts as often as it is met; a slice's spare places count too). A statement '..UptoSaid' is the law's where the arguments, and the package variables that the reading takes, are together of bulk at most 1048576: NARROWER than '..Said'. Prove '..Said' where nothing that the law and all that it calls make is longer than what came in: it says more and counts as full. Else prove '..UptoSaid'. A law counts once. -/
mutual
def uptoBulk {H : Type} : DataW H → Nat
  | .lit (.string bytes) => bytes.length + 1
  | .lit _ => 1
  | .nil => 1
  | .ptr d => uptoBulk d + 1
  | .slice elems spare => uptoBulkAll elems + uptoBulkAll spare + 1
  | .agg parts => uptoBulkAll parts + 1
  | .iface _ d => uptoBulk d + 1
  | .map entries => uptoBulkEntries entries + 1
  | .held _ => 1
def uptoBulkAll {H : Type} : List (DataW H) → Nat
  | [] => 0
  | d :: r => uptoBulk d + uptoBulkAll r
def uptoBulkEntries {H : Type} : List (Lit × DataW H) → Nat
  | [] => 0
  | x :: r => uptoBulkEntry x + uptoBulkEntries r
def uptoBulkEntry {H : Type} : Lit × DataW H → Nat
  | (.string bytes, d) => bytes.length + uptoBulk d + 1
  | (_, d) => uptoBulk d + 1
 end
def uptoSmall : (H : Type) → List (DataW H) → Bool := fun _ ds => decide (uptoBulkAll ds ≤ 1048576)
def OpenSpec.upto (s : _root_.Go.ChangeSpec) : _root_.Go.OpenSpec := { _root_.Go.OpenSpec.ofChange s with cond := some uptoSmall }

/-- 'wringerlaw04.AesSchedules', WHERE WHAT IT READS IS OF BULK AT MOST 1048576: true; the input reads as it did. -/
def aesSchedulesUptoRow : OpenClaim := { program := "ytplcboblokgihaadoor", sum := "26cd5c6d4e6b3887ce141e99555237481d153ce32a7a350328bde4405bf2f2b3", func := "wringer/wringerlaw04.AesSchedules", spec := "aesSchedules", unfollowed := true, recurses := true, named := ["wringer/turn.mixing", "wringer/turn.unmixing"], apart := false, laid := [("wringer/turn.mixing", laid_wringer_turn_mixing), ("wringer/turn.unmixing", laid_wringer_turn_unmixing)], narrowed := true }
def AesSchedulesUptoSaid : Prop := aesSchedulesUptoRow.holds Tryd.pinned (OpenSpec.upto aesSchedulesSpec)

/-- 'wringerlaw04.AesBlocks', WHERE WHAT IT READS IS OF BULK AT MOST 1048576: true; the input reads as it did. -/
def aesBlocksUptoRow : OpenClaim := { program := "ytplcboblokgihaadoor", sum := "26cd5c6d4e6b3887ce141e99555237481d153ce32a7a350328bde4405bf2f2b3", func := "wringer/wringerlaw04.AesBlocks", spec := "aesBlocks", unfollowed := true, recurses := true, named := ["wringer/turn.mixing", "wringer/turn.unmixing"], apart := false, laid := [("wringer/turn.mixing", laid_wringer_turn_mixing), ("wringer/turn.unmixing", laid_wringer_turn_unmixing)], narrowed := true }
def AesBlocksUptoSaid : Prop := aesBlocksUptoRow.holds Tryd.pinned (OpenSpec.upto aesBlocksSpec)

/-- 'wringerlaw04.AesBack', WHERE WHAT IT READS IS OF BULK AT MOST 1048576: true; the input reads as it did. -/
def aesBackUptoRow : OpenClaim := { program := "ytplcboblokgihaadoor", sum := "26cd5c6d4e6b3887ce141e99555237481d153ce32a7a350328bde4405bf2f2b3", func := "wringer/wringerlaw04.AesBack", spec := "aesBack", unfollowed := true, recurses := true, named := ["wringer/turn.mixing", "wringer/turn.unmixing"], apart := false, laid := [("wringer/turn.mixing", laid_wringer_turn_mixing), ("wringer/turn.unmixing", laid_wringer_turn_unmixing)], narrowed := true }
def AesBackUptoSaid : Prop := aesBackUptoRow.holds Tryd.pinned (OpenSpec.upto aesBackSpec)

/-- 'wringerlaw04.AesApart', WHERE WHAT IT READS IS OF BULK AT MOST 1048576: true; the input reads as it did. -/
def aesApartUptoRow : OpenClaim := { program := "ytplcboblokgihaadoor", sum := "26cd5c6d4e6b3887ce141e99555237481d153ce32a7a350328bde4405bf2f2b3", func := "wringer/wringerlaw04.AesApart", spec := "aesApart", unfollowed := true, recurses := true, named := ["wringer/turn.mixing", "wringer/turn.unmixing"], apart := false, laid := [("wringer/turn.mixing", laid_wringer_turn_mixing), ("wringer/turn.unmixing", laid_wringer_turn_unmixing)], narrowed := true }
def AesApartUptoSaid : Prop := aesApartUptoRow.holds Tryd.pinned (OpenSpec.upto aesApartSpec)

/-- 'wringerlaw04.AesMade', WHERE WHAT IT READS IS OF BULK AT MOST 1048576: true; the input reads as it did. -/
def aesMadeUptoRow : OpenClaim := { program := "ytplcboblokgihaadoor", sum := "26cd5c6d4e6b3887ce141e99555237481d153ce32a7a350328bde4405bf2f2b3", func := "wringer/wringerlaw04.AesMade", spec := "aesMade", unfollowed := true, recurses := true, named := ["wringer/turn.mixing", "wringer/turn.unmixing"], apart := false, laid := [("wringer/turn.mixing", laid_wringer_turn_mixing), ("wringer/turn.unmixing", laid_wringer_turn_unmixing)], narrowed := true }
def AesMadeUptoSaid : Prop := aesMadeUptoRow.holds Tryd.pinned (OpenSpec.upto aesMadeSpec)

/-- 'wringerlaw04.AesFirst', WHERE WHAT IT READS IS OF BULK AT MOST 1048576: true; the input reads as it did. -/
def aesFirstUptoRow : OpenClaim := { program := "ytplcboblokgihaadoor", sum := "26cd5c6d4e6b3887ce141e99555237481d153ce32a7a350328bde4405bf2f2b3", func := "wringer/wringerlaw04.AesFirst", spec := "aesFirst", unfollowed := true, recurses := true, named := ["wringer/turn.mixing", "wringer/turn.unmixing"], apart := false, laid := [("wringer/turn.mixing", laid_wringer_turn_mixing), ("wringer/turn.unmixing", laid_wringer_turn_unmixing)], narrowed := true }
def AesFirstUptoSaid : Prop := aesFirstUptoRow.holds Tryd.pinned (OpenSpec.upto aesFirstSpec)

/-- 'wringerlaw04.AesWords', WHERE WHAT IT READS IS OF BULK AT MOST 1048576: true; the input reads as it did. -/
def aesWordsUptoRow : OpenClaim := { program := "ytplcboblokgihaadoor", sum := "26cd5c6d4e6b3887ce141e99555237481d153ce32a7a350328bde4405bf2f2b3", func := "wringer/wringerlaw04.AesWords", spec := "aesWords", unfollowed := true, recurses := true, named := ["wringer/turn.mixing", "wringer/turn.unmixing"], apart := false, laid := [("wringer/turn.mixing", laid_wringer_turn_mixing), ("wringer/turn.unmixing", laid_wringer_turn_unmixing)], narrowed := true }
def AesWordsUptoSaid : Prop := aesWordsUptoRow.holds Tryd.pinned (OpenSpec.upto aesWordsSpec)

end Rows
end Go.Proofs.YtplcboblokgihaaDoor
