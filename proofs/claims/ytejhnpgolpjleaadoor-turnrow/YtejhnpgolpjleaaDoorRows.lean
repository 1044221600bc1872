/-
  NARROWER THAN 'FOR EVERY INPUT', by the rows' own cells (each row's printed sentence says how): TurnRounds: laid · TurnBacks: laid · TurnMany: laid · TurnUndone: laid · TurnKeys: laid · TurnRow: laid · TurnApart: laid · TurnLocal: laid.
  DERIVED. THE GIVEN ROWS OF THIS SEAT. 8 by the template 'for every input the law returns true; each argument reads behind the call as it read before'; 0 by the template 'total and deterministic' (their statements: YtejhnpgolpjleaaDoorTotals.lean).
  GIVEN WITH THE SEED: the statements are not yours to turn. If you find one false, say at which input.
  Laid BY PROGRAM, IN A SANDBOX (cutbox-rows.mjs): the forced cells as the released guide's own fill.sh prints them over the translation b4d7a1f787179a05… (all of the seat's roots in one cut). By AI agents, Wed Nov 11 2026. No macro, syntax, notation, axiom, sorry.
-/
import Derived.Test.YtejhnpgolpjleaaDoorChecked
import GoSem.Claim
import GoSem.ClaimJoined
import GoSem.ClaimMapViews
import Derived.JoinedTies
import Derived.KernelRfl
namespace Go.Proofs.YtejhnpgolpjleaaDoor
/- THE CELL 'sum', in the pinned program and in every row, IS THE sha256 OF THE DUMP (.gsa) THAT YtejhnpgolpjleaaDoorProg.lean LOADS. Nothing in Lean hashes anything: it is a label: what it is worth is what the hold of that sum in a sandbox is worth. -/
noncomputable def Tryd.pinned : Pinned := { name := "ytejhnpgolpjleaadoor", sum := "b4d7a1f787179a05337efc5c04ab620f05e877e35386b45f147d87791674334d", checked := Tryd.checked }
namespace Rows
def none {H : Type} : Left H := { results := [], args := [] }

/- WHAT THE LISTED PACKAGE-LEVEL VARIABLES READ AS WHEN THE CALL BEGINS. Each datum BY PROGRAM (the guide's laid-datum.mjs) off the statement by which the dump's own 'gosem.cut.vars' lays the variable. In a bare row this is a premise. The card (YtejhnpgolpjleaaDoorCards.lean) ties it to the program's text. -/
def laid_wringer_turn_mixing {H : Type} : DataW H := .agg [.agg [.lit (.int .u8 2), .lit (.int .u8 3), .lit (.int .u8 1), .lit (.int .u8 1)], .agg [.lit (.int .u8 1), .lit (.int .u8 2), .lit (.int .u8 3), .lit (.int .u8 1)], .agg [.lit (.int .u8 1), .lit (.int .u8 1), .lit (.int .u8 2), .lit (.int .u8 3)], .agg [.lit (.int .u8 3), .lit (.int .u8 1), .lit (.int .u8 1), .lit (.int .u8 2)]]
def laid_wringer_turn_unmixing {H : Type} : DataW H := .agg [.agg [.lit (.int .u8 14), .lit (.int .u8 11), .lit (.int .u8 13), .lit (.int .u8 9)], .agg [.lit (.int .u8 9), .lit (.int .u8 14), .lit (.int .u8 11), .lit (.int .u8 13)], .agg [.lit (.int .u8 13), .lit (.int .u8 9), .lit (.int .u8 14), .lit (.int .u8 11)], .agg [.lit (.int .u8 11), .lit (.int .u8 13), .lit (.int .u8 9), .lit (.int .u8 14)]]

/-- 'wringerlaw03.TurnRounds': WHATEVER THE INPUT: true; the input reads as it did. -/
def turnRoundsSpec : ChangeSpec := { name := "turnRounds", fn := fun _ => fun
  | [d1, d2] => { results := [.lit (.bool true)], args := [d1, d2] }
  | _ => none }
def turnRoundsRow : OpenClaim := { program := "ytejhnpgolpjleaadoor", sum := "b4d7a1f787179a05337efc5c04ab620f05e877e35386b45f147d87791674334d", func := "wringer/wringerlaw03.TurnRounds", spec := "turnRounds", unfollowed := true, recurses := true, named := ["wringer/turn.mixing", "wringer/turn.unmixing"], apart := false, laid := [("wringer/turn.mixing", laid_wringer_turn_mixing), ("wringer/turn.unmixing", laid_wringer_turn_unmixing)] }
def TurnRoundsSaid : Prop := turnRoundsRow.holds Tryd.pinned (OpenSpec.ofChange turnRoundsSpec)

/-- ITS FALSE NEIGHBOUR: 'it returns false'. Refute it at one input. -/
def turnRoundsWrong : ChangeSpec := { name := "turnRounds", fn := fun _ => fun
  | [d1, d2] => { results := [.lit (.bool false)], args := [d1, d2] }
  | _ => none }
def TurnRoundsWrongFalsely : Prop := turnRoundsRow.holds Tryd.pinned (OpenSpec.ofChange turnRoundsWrong)

/-- 'wringerlaw03.TurnBacks': WHATEVER THE INPUT: true; the input reads as it did. -/
def turnBacksSpec : ChangeSpec := { name := "turnBacks", fn := fun _ => fun
  | [d1, d2] => { results := [.lit (.bool true)], args := [d1, d2] }
  | _ => none }
def turnBacksRow : OpenClaim := { program := "ytejhnpgolpjleaadoor", sum := "b4d7a1f787179a05337efc5c04ab620f05e877e35386b45f147d87791674334d", func := "wringer/wringerlaw03.TurnBacks", spec := "turnBacks", unfollowed := true, recurses := true, named := ["wringer/turn.mixing", "wringer/turn.unmixing"], apart := false, laid := [("wringer/turn.mixing", laid_wringer_turn_mixing), ("wringer/turn.unmixing", laid_wringer_turn_unmixing)] }
def TurnBacksSaid : Prop := turnBacksRow.holds Tryd.pinned (OpenSpec.ofChange turnBacksSpec)

/-- ITS FALSE NEIGHBOUR: 'it returns false'. Refute it at one input. -/
def turnBacksWrong : ChangeSpec := { name := "turnBacks", fn := fun _ => fun
  | [d1, d2] => { results := [.lit (.bool false)], args := [d1, d2] }
  | _ => none }
def TurnBacksWrongFalsely : Prop := turnBacksRow.holds Tryd.pinned (OpenSpec.ofChange turnBacksWrong)

/-- 'wringerlaw03.TurnMany': WHATEVER THE INPUT: true; the input reads as it did. -/
def turnManySpec : ChangeSpec := { name := "turnMany", fn := fun _ => fun
  | [d1, d2] => { results := [.lit (.bool true)], args := [d1, d2] }
  | _ => none }
def turnManyRow : OpenClaim := { program := "ytejhnpgolpjleaadoor", sum := "b4d7a1f787179a05337efc5c04ab620f05e877e35386b45f147d87791674334d", func := "wringer/wringerlaw03.TurnMany", spec := "turnMany", unfollowed := true, recurses := true, named := ["wringer/turn.mixing", "wringer/turn.unmixing"], apart := false, laid := [("wringer/turn.mixing", laid_wringer_turn_mixing), ("wringer/turn.unmixing", laid_wringer_turn_unmixing)] }
def TurnManySaid : Prop := turnManyRow.holds Tryd.pinned (OpenSpec.ofChange turnManySpec)

/-- ITS FALSE NEIGHBOUR: 'it returns false'. Refute it at one input. -/
def turnManyWrong : ChangeSpec := { name := "turnMany", fn := fun _ => fun
  | [d1, d2] => { results := [.lit (.bool false)], args := [d1, d2] }
  | _ => none }
def TurnManyWrongFalsely : Prop := turnManyRow.holds Tryd.pinned (OpenSpec.ofChange turnManyWrong)

/-- 'wringerlaw03.TurnUndone': WHATEVER THE INPUT: true; the input reads as it did. -/
def turnUndoneSpec : ChangeSpec := { name := "turnUndone", fn := fun _ => fun
  | [d1, d2] => { results := [.lit (.bool true)], args := [d1, d2] }
  | _ => none }
def turnUndoneRow : OpenClaim := { program := "ytejhnpgolpjleaadoor", sum := "b4d7a1f787179a05337efc5c04ab620f05e877e35386b45f147d87791674334d", func := "wringer/wringerlaw03.TurnUndone", spec := "turnUndone", unfollowed := true, recurses := true, named := ["wringer/turn.mixing", "wringer/turn.unmixing"], apart := false, laid := [("wringer/turn.mixing", laid_wringer_turn_mixing), ("wringer/turn.unmixing", laid_wringer_turn_unmixing)] }
def TurnUndoneSaid : Prop := turnUndoneRow.holds Tryd.pinned (OpenSpec.ofChange turnUndoneSpec)

/-- ITS FALSE NEIGHBOUR: 'it returns false'. Refute it at one input. -/
def turnUndoneWrong : ChangeSpec := { name := "turnUndone", fn := fun _ => fun
  | [d1, d2] => { results := [.lit (.bool false)], args := [d1, d2] }
  | _ => none }
def TurnUndoneWrongFalsely : Prop := turnUndoneRow.holds Tryd.pinned (OpenSpec.ofChange turnUndoneWrong)

/-- 'wringerlaw03.TurnKeys': WHATEVER THE INPUT: true; the input reads as it did. -/
def turnKeysSpec : ChangeSpec := { name := "turnKeys", fn := fun _ => fun
  | [d1, d2, d3] => { results := [.lit (.bool true)], args := [d1, d2, d3] }
  | _ => none }
def turnKeysRow : OpenClaim := { program := "ytejhnpgolpjleaadoor", sum := "b4d7a1f787179a05337efc5c04ab620f05e877e35386b45f147d87791674334d", func := "wringer/wringerlaw03.TurnKeys", spec := "turnKeys", unfollowed := true, recurses := true, named := ["wringer/turn.mixing", "wringer/turn.unmixing"], apart := false, laid := [("wringer/turn.mixing", laid_wringer_turn_mixing), ("wringer/turn.unmixing", laid_wringer_turn_unmixing)] }
def TurnKeysSaid : Prop := turnKeysRow.holds Tryd.pinned (OpenSpec.ofChange turnKeysSpec)

/-- ITS FALSE NEIGHBOUR: 'it returns false'. Refute it at one input. -/
def turnKeysWrong : ChangeSpec := { name := "turnKeys", fn := fun _ => fun
  | [d1, d2, d3] => { results := [.lit (.bool false)], args := [d1, d2, d3] }
  | _ => none }
def TurnKeysWrongFalsely : Prop := turnKeysRow.holds Tryd.pinned (OpenSpec.ofChange turnKeysWrong)

/-- 'wringerlaw03.TurnRow': WHATEVER THE INPUT: true; the input reads as it did. -/
def turnRowSpec : ChangeSpec := { name := "turnRow", fn := fun _ => fun
  | [d1, d2, d3] => { results := [.lit (.bool true)], args := [d1, d2, d3] }
  | _ => none }
def turnRowRow : OpenClaim := { program := "ytejhnpgolpjleaadoor", sum := "b4d7a1f787179a05337efc5c04ab620f05e877e35386b45f147d87791674334d", func := "wringer/wringerlaw03.TurnRow", spec := "turnRow", unfollowed := true, recurses := true, named := ["wringer/turn.mixing", "wringer/turn.unmixing"], apart := false, laid := [("wringer/turn.mixing", laid_wringer_turn_mixing), ("wringer/turn.unmixing", laid_wringer_turn_unmixing)] }
def TurnRowSaid : Prop := turnRowRow.holds Tryd.pinned (OpenSpec.ofChange turnRowSpec)

/-- ITS FALSE NEIGHBOUR: 'it returns false'. Refute it at one input. -/
def turnRowWrong : ChangeSpec := { name := "turnRow", fn := fun _ => fun
  | [d1, d2, d3] => { results := [.lit (.bool false)], args := [d1, d2, d3] }
  | _ => none }
def TurnRowWrongFalsely : Prop := turnRowRow.holds Tryd.pinned (OpenSpec.ofChange turnRowWrong)

/-- 'wringerlaw03.TurnApart': WHATEVER THE INPUT: true; the input reads as it did. -/
def turnApartSpec : ChangeSpec := { name := "turnApart", fn := fun _ => fun
  | [d1, d2, d3] => { results := [.lit (.bool true)], args := [d1, d2, d3] }
  | _ => none }
def turnApartRow : OpenClaim := { program := "ytejhnpgolpjleaadoor", sum := "b4d7a1f787179a05337efc5c04ab620f05e877e35386b45f147d87791674334d", func := "wringer/wringerlaw03.TurnApart", spec := "turnApart", unfollowed := true, recurses := true, named := ["wringer/turn.mixing", "wringer/turn.unmixing"], apart := false, laid := [("wringer/turn.mixing", laid_wringer_turn_mixing), ("wringer/turn.unmixing", laid_wringer_turn_unmixing)] }
def TurnApartSaid : Prop := turnApartRow.holds Tryd.pinned (OpenSpec.ofChange turnApartSpec)

/-- ITS FALSE NEIGHBOUR: 'it returns false'. Refute it at one input. -/
def turnApartWrong : ChangeSpec := { name := "turnApart", fn := fun _ => fun
  | [d1, d2, d3] => { results := [.lit (.bool false)], args := [d1, d2, d3] }
  | _ => none }
def TurnApartWrongFalsely : Prop := turnApartRow.holds Tryd.pinned (OpenSpec.ofChange turnApartWrong)

/-- 'wringerlaw03.TurnLocal': WHATEVER THE INPUT: true; the input reads as it did. -/
def turnLocalSpec : ChangeSpec := { name := "turnLocal", fn := fun _ => fun
  | [d] => { results := [.lit (.bool true)], args := [d] }
  | _ => none }
def turnLocalRow : OpenClaim := { program := "ytejhnpgolpjleaadoor", sum := "b4d7a1f787179a05337efc5c04ab620f05e877e35386b45f147d87791674334d", func := "wringer/wringerlaw03.TurnLocal", spec := "turnLocal", unfollowed := true, recurses := true, named := ["wringer/turn.mixing", "wringer/turn.unmixing"], apart := false, laid := [("wringer/turn.mixing", laid_wringer_turn_mixing), ("wringer/turn.unmixing", laid_wringer_turn_unmixing)] }
def TurnLocalSaid : Prop := turnLocalRow.holds Tryd.pinned (OpenSpec.ofChange turnLocalSpec)

/-- ITS FALSE NEIGHBOUR: 'it returns false'. Refute it at one input. -/
def turnLocalWrong : ChangeSpec := { name := "turnLocal", fn := fun _ => fun
  | [d] => { results := [.lit (.bool false)], args := [d] }
  | _ => none }
def TurnLocalWrongFalsely : Prop := turnLocalRow.holds Tryd.pinned (OpenSpec.ofChange turnLocalWrong)

/- THE SECOND FORM. 'bulk': how many values and letters a reading holds, each counted each time it is reached (what is shared counts as often as it is met; a slice's spare places count too). A statement '..UptoSaid' is the law's where the arguments, and the package variables that the reading takes, are together of bulk at most 1048576: NARROWER than '..Said'. Prove '..Said' where nothing that the law and all that it calls make is longer than what came in: it says more and counts as full. Else prove '..UptoSaid'. A law counts once. -/
mutual
def uptoBulk {H : Type} : DataW H → Nat
  | .lit (.string bytes) => bytes.length + 1
  | .lit _ => 1
  | .nil => 1
  | .ptr d => uptoBulk d + 1
  | .slice elems spare => uptoBulkAll elems + uptoBulkAll spare + 1
  | .agg parts => uptoBulkAll parts + 1
  | .iface _ d => uptoBulk d + 1
  | .map entries => uptoBulkEntries entries + 1
  | .held _ => 1
def uptoBulkAll {H : Type} : List (DataW H) → Nat
  | [] => 0
  | d :: r => uptoBulk d + uptoBulkAll r
def uptoBulkEntries {H : Type} : List (Lit × DataW H) → Nat
  | [] => 0
  | x :: r => uptoBulkEntry x + uptoBulkEntries r
def uptoBulkEntry {H : Type} : Lit × DataW H → Nat
  | (.string bytes, d) => bytes.length + uptoBulk d + 1
  | (_, d) => uptoBulk d + 1
 end
def uptoSmall : (H : Type) → List (DataW H) → Bool := fun _ ds => decide (uptoBulkAll ds ≤ 1048576)
def OpenSpec.upto (s : _root_.Go.ChangeSpec) : _root_.Go.OpenSpec := { _root_.Go.OpenSpec.ofChange s with cond := some uptoSmall }

/-- 'wringerlaw03.TurnRounds', WHERE WHAT IT READS IS OF BULK AT MOST 1048576: true; the input reads as it did. -/
def turnRoundsUptoRow : OpenClaim := { program := "ytejhnpgolpjleaadoor", sum := "b4d7a1f787179a05337efc5c04ab620f05e877e35386b45f147d87791674334d", func := "wringer/wringerlaw03.TurnRounds", spec := "turnRounds", unfollowed := true, recurses := true, named := ["wringer/turn.mixing", "wringer/turn.unmixing"], apart := false, laid := [("wringer/turn.mixing", laid_wringer_turn_mixing), ("wringer/turn.unmixing", laid_wringer_turn_unmixing)], narrowed := true }
def TurnRoundsUptoSaid : Prop := turnRoundsUptoRow.holds Tryd.pinned (OpenSpec.upto turnRoundsSpec)

/-- 'wringerlaw03.TurnBacks', WHERE WHAT IT READS IS OF BULK AT MOST 1048576: true; the input reads as it did. -/
def turnBacksUptoRow : OpenClaim := { program := "ytejhnpgolpjleaadoor", sum := "b4d7a1f787179a05337efc5c04ab620f05e877e35386b45f147d87791674334d", func := "wringer/wringerlaw03.TurnBacks", spec := "turnBacks", unfollowed := true, recurses := true, named := ["wringer/turn.mixing", "wringer/turn.unmixing"], apart := false, laid := [("wringer/turn.mixing", laid_wringer_turn_mixing), ("wringer/turn.unmixing", laid_wringer_turn_unmixing)], narrowed := true }
def TurnBacksUptoSaid : Prop := turnBacksUptoRow.holds Tryd.pinned (OpenSpec.upto turnBacksSpec)

/-- 'wringerlaw03.TurnMany', WHERE WHAT IT READS IS OF BULK AT MOST 1048576: true; the input reads as it did. -/
def turnManyUptoRow : OpenClaim := { program := "ytejhnpgolpjleaadoor", sum := "b4d7a1f787179a05337efc5c04ab620f05e877e35386b45f147d87791674334d", func := "wringer/wringerlaw03.TurnMany", spec := "turnMany", unfollowed := true, recurses := true, named := ["wringer/turn.mixing", "wringer/turn.unmixing"], apart := false, laid := [("wringer/turn.mixing", laid_wringer_turn_mixing), ("wringer/turn.unmixing", laid_wringer_turn_unmixing)], narrowed := true }
def TurnManyUptoSaid : Prop := turnManyUptoRow.holds Tryd.pinned (OpenSpec.upto turnManySpec)

/-- 'wringerlaw03.TurnUndone', WHERE WHAT IT READS IS OF BULK AT MOST 1048576: true; the input reads as it did. -/
def turnUndoneUptoRow : OpenClaim := { program := "ytejhnpgolpjleaadoor", sum := "b4d7a1f787179a05337efc5c04ab620f05e877e35386b45f147d87791674334d", func := "wringer/wringerlaw03.TurnUndone", spec := "turnUndone", unfollowed := true, recurses := true, named := ["wringer/turn.mixing", "wringer/turn.unmixing"], apart := false, laid := [("wringer/turn.mixing", laid_wringer_turn_mixing), ("wringer/turn.unmixing", laid_wringer_turn_unmixing)], narrowed := true }
def TurnUndoneUptoSaid : Prop := turnUndoneUptoRow.holds Tryd.pinned (OpenSpec.upto turnUndoneSpec)

/-- 'wringerlaw03.TurnKeys', WHERE WHAT IT READS IS OF BULK AT MOST 1048576: true; the input reads as it did. -/
def turnKeysUptoRow : OpenClaim := { program := "ytejhnpgolpjleaadoor", sum := "b4d7a1f787179a05337efc5c04ab620f05e877e35386b45f147d87791674334d", func := "wringer/wringerlaw03.TurnKeys", spec := "turnKeys", unfollowed := true, recurses := true, named := ["wringer/turn.mixing", "wringer/turn.unmixing"], apart := false, laid := [("wringer/turn.mixing", laid_wringer_turn_mixing), ("wringer/turn.unmixing", laid_wringer_turn_unmixing)], narrowed := true }
def TurnKeysUptoSaid : Prop := turnKeysUptoRow.holds Tryd.pinned (OpenSpec.upto turnKeysSpec)

/-- 'wringerlaw03.TurnRow', WHERE WHAT IT READS IS OF BULK AT MOST 1048576: true; the input reads as it did. -/
def turnRowUptoRow : OpenClaim := { program := "ytejhnpgolpjleaadoor", sum := "b4d7a1f787179a05337efc5c04ab620f05e877e35386b45f147d87791674334d", func := "wringer/wringerlaw03.TurnRow", spec := "turnRow", unfollowed := true, recurses := true, named := ["wringer/turn.mixing", "wringer/turn.unmixing"], apart := false, laid := [("wringer/turn.mixing", laid_wringer_turn_mixing), ("wringer/turn.unmixing", laid_wringer_turn_unmixing)], narrowed := true }
def TurnRowUptoSaid : Prop := turnRowUptoRow.holds Tryd.pinned (OpenSpec.upto turnRowSpec)

/-- 'wringerlaw03.TurnApart', WHERE WHAT IT READS IS OF BULK AT MOST 1048576: true; the input reads as it did. -/
def turnApartUptoRow : OpenClaim := { program := "ytejhnpgolpjleaadoor", sum := "b4d7a1f787179a05337efc5c04ab620f05e877e35386b45f147d87791674334d", func := "wringer/wringerlaw03.TurnApart", spec := "turnApart", unfollowed := true, recurses := true, named := ["wringer/turn.mixing", "wringer/turn.unmixing"], apart := false, laid := [("wringer/turn.mixing", laid_wringer_turn_mixing), ("wringer/turn.unmixing", laid_wringer_turn_unmixing)], narrowed := true }
def TurnApartUptoSaid : Prop := turnApartUptoRow.holds Tryd.pinned (OpenSpec.upto turnApartSpec)

/-- 'wringerlaw03.TurnLocal', WHERE WHAT IT READS IS OF BULK AT MOST 1048576: true; the input reads as it did. -/
def turnLocalUptoRow : OpenClaim := { program := "ytejhnpgolpjleaadoor", sum := "b4d7a1f787179a05337efc5c04ab620f05e877e35386b45f147d87791674334d", func := "wringer/wringerlaw03.TurnLocal", spec := "turnLocal", unfollowed := true, recurses := true, named := ["wringer/turn.mixing", "wringer/turn.unmixing"], apart := false, laid := [("wringer/turn.mixing", laid_wringer_turn_mixing), ("wringer/turn.unmixing", laid_wringer_turn_unmixing)], narrowed := true }
def TurnLocalUptoSaid : Prop := turnLocalUptoRow.holds Tryd.pinned (OpenSpec.upto turnLocalSpec)

end Rows
end Go.Proofs.YtejhnpgolpjleaaDoor
