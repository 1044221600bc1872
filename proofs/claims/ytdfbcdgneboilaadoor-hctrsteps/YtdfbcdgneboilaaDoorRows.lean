/-
  NARROWER THAN 'FOR EVERY INPUT', by the rows' own cells (each row's printed sentence says how): HctrKeys: laid · HctrBack: laid · HctrApart: laid · HctrSteps: laid · HctrLeft: laid.
  DERIVED. THE GIVEN ROWS OF THIS SEAT. 5 by the template 'for every input the law returns true; each argument reads behind the call as it read before'; 0 by the template 'total and deterministic' (their statements: YtdfbcdgneboilaaDoorTotals.lean).
  GIVEN WITH THE SEED: the statements are not yours to turn. If you find one false, say at which input.
  Laid BY PROGRAM, IN A SANDBOX (cutbox-rows.mjs): the forced cells as the released guide's own fill.sh prints them over the translation d7fdf18d161f95d0… (all of the seat's roots in one cut). By AI agents, Wed Nov 11 2026. No macro, syntax, notation, axiom, sorry.
-/
import Derived.Test.YtdfbcdgneboilaaDoorChecked
import GoSem.Claim
import GoSem.ClaimJoined
import GoSem.ClaimMapViews
import Derived.JoinedTies
import Derived.KernelRfl
namespace Go.Proofs.YtdfbcdgneboilaaDoor
/- THE CELL 'sum', in the pinned program and in every row, IS THE sha256 OF THE DUMP (.gsa) THAT YtdfbcdgneboilaaDoorProg.lean LOADS. Nothing in Lean hashes anything: it is a label: what it is worth is what the hold of that sum in a sandbox is worth. -/
noncomputable def Tryd.pinned : Pinned := { name := "ytdfbcdgneboilaadoor", sum := "d7fdf18d161f95d0b62f36cdb02b7d6ee669d3fe95c60e4b6b134fadada94914", checked := Tryd.checked }
namespace Rows
def none {H : Type} : Left H := { results := [], args := [] }

/- WHAT THE LISTED PACKAGE-LEVEL VARIABLES READ AS WHEN THE CALL BEGINS. Each datum BY PROGRAM (the guide's laid-datum.mjs) off the statement by which the dump's own 'gosem.cut.vars' lays the variable. In a bare row this is a premise. The card (YtdfbcdgneboilaaDoorCards.lean) ties it to the program's text. -/
def laid_wringer_turn_mixing {H : Type} : DataW H := .agg [.agg [.lit (.int .u8 2), .lit (.int .u8 3), .lit (.int .u8 1), .lit (.int .u8 1)], .agg [.lit (.int .u8 1), .lit (.int .u8 2), .lit (.int .u8 3), .lit (.int .u8 1)], .agg [.lit (.int .u8 1), .lit (.int .u8 1), .lit (.int .u8 2), .lit (.int .u8 3)], .agg [.lit (.int .u8 3), .lit (.int .u8 1), .lit (.int .u8 1), .lit (.int .u8 2)]]
def laid_wringer_turn_unmixing {H : Type} : DataW H := .agg [.agg [.lit (.int .u8 14), .lit (.int .u8 11), .lit (.int .u8 13), .lit (.int .u8 9)], .agg [.lit (.int .u8 9), .lit (.int .u8 14), .lit (.int .u8 11), .lit (.int .u8 13)], .agg [.lit (.int .u8 13), .lit (.int .u8 9), .lit (.int .u8 14), .lit (.int .u8 11)], .agg [.lit (.int .u8 11), .lit (.int .u8 13), .lit (.int .u8 9), .lit (.int .u8 14)]]

/-- 'wringerlaw18.HctrKeys': WHATEVER THE INPUT: true; the input reads as it did. -/
def hctrKeysSpec : ChangeSpec := { name := "hctrKeys", fn := fun _ => fun
  | [d1, d2] => { results := [.lit (.bool true)], args := [d1, d2] }
  | _ => none }
def hctrKeysRow : OpenClaim := { program := "ytdfbcdgneboilaadoor", sum := "d7fdf18d161f95d0b62f36cdb02b7d6ee669d3fe95c60e4b6b134fadada94914", func := "wringer/wringerlaw18.HctrKeys", spec := "hctrKeys", inPlace := ["math.archTrunc", "math.Float64bits", "math.Float64frombits", "math/bits.Add64"], unfollowed := true, recurses := true, named := ["wringer/turn.mixing", "wringer/turn.unmixing"], apart := false, laid := [("wringer/turn.mixing", laid_wringer_turn_mixing), ("wringer/turn.unmixing", laid_wringer_turn_unmixing)] }
def HctrKeysSaid : Prop := hctrKeysRow.holds Tryd.pinned (OpenSpec.ofChange hctrKeysSpec)

/-- ITS FALSE NEIGHBOUR: 'it returns false'. Refute it at one input. -/
def hctrKeysWrong : ChangeSpec := { name := "hctrKeys", fn := fun _ => fun
  | [d1, d2] => { results := [.lit (.bool false)], args := [d1, d2] }
  | _ => none }
def HctrKeysWrongFalsely : Prop := hctrKeysRow.holds Tryd.pinned (OpenSpec.ofChange hctrKeysWrong)

/-- 'wringerlaw18.HctrBack': WHATEVER THE INPUT: true; the input reads as it did. -/
def hctrBackSpec : ChangeSpec := { name := "hctrBack", fn := fun _ => fun
  | [d] => { results := [.lit (.bool true)], args := [d] }
  | _ => none }
def hctrBackRow : OpenClaim := { program := "ytdfbcdgneboilaadoor", sum := "d7fdf18d161f95d0b62f36cdb02b7d6ee669d3fe95c60e4b6b134fadada94914", func := "wringer/wringerlaw18.HctrBack", spec := "hctrBack", inPlace := ["math.archTrunc", "math.Float64bits", "math.Float64frombits", "math/bits.Add64"], unfollowed := true, recurses := true, named := ["wringer/turn.mixing", "wringer/turn.unmixing"], apart := false, laid := [("wringer/turn.mixing", laid_wringer_turn_mixing), ("wringer/turn.unmixing", laid_wringer_turn_unmixing)] }
def HctrBackSaid : Prop := hctrBackRow.holds Tryd.pinned (OpenSpec.ofChange hctrBackSpec)

/-- ITS FALSE NEIGHBOUR: 'it returns false'. Refute it at one input. -/
def hctrBackWrong : ChangeSpec := { name := "hctrBack", fn := fun _ => fun
  | [d] => { results := [.lit (.bool false)], args := [d] }
  | _ => none }
def HctrBackWrongFalsely : Prop := hctrBackRow.holds Tryd.pinned (OpenSpec.ofChange hctrBackWrong)

/-- 'wringerlaw18.HctrApart': WHATEVER THE INPUT: true; the input reads as it did. -/
def hctrApartSpec : ChangeSpec := { name := "hctrApart", fn := fun _ => fun
  | [d1, d2] => { results := [.lit (.bool true)], args := [d1, d2] }
  | _ => none }
def hctrApartRow : OpenClaim := { program := "ytdfbcdgneboilaadoor", sum := "d7fdf18d161f95d0b62f36cdb02b7d6ee669d3fe95c60e4b6b134fadada94914", func := "wringer/wringerlaw18.HctrApart", spec := "hctrApart", inPlace := ["math.archTrunc", "math.Float64bits", "math.Float64frombits", "math/bits.Add64"], unfollowed := true, recurses := true, named := ["wringer/turn.mixing", "wringer/turn.unmixing"], apart := false, laid := [("wringer/turn.mixing", laid_wringer_turn_mixing), ("wringer/turn.unmixing", laid_wringer_turn_unmixing)] }
def HctrApartSaid : Prop := hctrApartRow.holds Tryd.pinned (OpenSpec.ofChange hctrApartSpec)

/-- ITS FALSE NEIGHBOUR: 'it returns false'. Refute it at one input. -/
def hctrApartWrong : ChangeSpec := { name := "hctrApart", fn := fun _ => fun
  | [d1, d2] => { results := [.lit (.bool false)], args := [d1, d2] }
  | _ => none }
def HctrApartWrongFalsely : Prop := hctrApartRow.holds Tryd.pinned (OpenSpec.ofChange hctrApartWrong)

/-- 'wringerlaw18.HctrSteps': WHATEVER THE INPUT: true; the input reads as it did. -/
def hctrStepsSpec : ChangeSpec := { name := "hctrSteps", fn := fun _ => fun
  | [d] => { results := [.lit (.bool true)], args := [d] }
  | _ => none }
def hctrStepsRow : OpenClaim := { program := "ytdfbcdgneboilaadoor", sum := "d7fdf18d161f95d0b62f36cdb02b7d6ee669d3fe95c60e4b6b134fadada94914", func := "wringer/wringerlaw18.HctrSteps", spec := "hctrSteps", inPlace := ["math/bits.Add64", "math.archTrunc", "math.Float64bits", "math.Float64frombits"], unfollowed := true, recurses := true, named := ["wringer/turn.mixing", "wringer/turn.unmixing"], apart := false, laid := [("wringer/turn.mixing", laid_wringer_turn_mixing), ("wringer/turn.unmixing", laid_wringer_turn_unmixing)] }
def HctrStepsSaid : Prop := hctrStepsRow.holds Tryd.pinned (OpenSpec.ofChange hctrStepsSpec)

/-- ITS FALSE NEIGHBOUR: 'it returns false'. Refute it at one input. -/
def hctrStepsWrong : ChangeSpec := { name := "hctrSteps", fn := fun _ => fun
  | [d] => { results := [.lit (.bool false)], args := [d] }
  | _ => none }
def HctrStepsWrongFalsely : Prop := hctrStepsRow.holds Tryd.pinned (OpenSpec.ofChange hctrStepsWrong)

/-- 'wringerlaw18.HctrLeft': WHATEVER THE INPUT: true; the input reads as it did. -/
def hctrLeftSpec : ChangeSpec := { name := "hctrLeft", fn := fun _ => fun
  | [d1, d2] => { results := [.lit (.bool true)], args := [d1, d2] }
  | _ => none }
def hctrLeftRow : OpenClaim := { program := "ytdfbcdgneboilaadoor", sum := "d7fdf18d161f95d0b62f36cdb02b7d6ee669d3fe95c60e4b6b134fadada94914", func := "wringer/wringerlaw18.HctrLeft", spec := "hctrLeft", inPlace := ["math.archTrunc", "math.Float64bits", "math.Float64frombits", "math/bits.Add64"], unfollowed := true, recurses := true, named := ["wringer/turn.mixing", "wringer/turn.unmixing"], apart := false, laid := [("wringer/turn.mixing", laid_wringer_turn_mixing), ("wringer/turn.unmixing", laid_wringer_turn_unmixing)] }
def HctrLeftSaid : Prop := hctrLeftRow.holds Tryd.pinned (OpenSpec.ofChange hctrLeftSpec)

/-- ITS FALSE NEIGHBOUR: 'it returns false'. Refute it at one input. -/
def hctrLeftWrong : ChangeSpec := { name := "hctrLeft", fn := fun _ => fun
  | [d1, d2] => { results := [.lit (.bool false)], args := [d1, d2] }
  | _ => none }
def HctrLeftWrongFalsely : Prop := hctrLeftRow.holds Tryd.pinned (OpenSpec.ofChange hctrLeftWrong)

/- THE SECOND FORM. 'bulk': how many values and letters a reading holds, each counted each time it is reached (what is shared counts as often as it is met; a slice's spare places count too). A statement '..UptoSaid' is the law's where the arguments, and the package variables that the reading takes, are together of bulk at most 1048576: NARROWER than '..Said'. Prove '..Said' where nothing that the law and all that it calls make is longer than what came in: it says more and counts as full. Else prove '..UptoSaid'. A law counts once. -/
mutual
def uptoBulk {H : Type} : DataW H → Nat
  | .lit (.string bytes) => bytes.length + 1
  | .lit _ => 1
  | .nil => 1
  | .ptr d => uptoBulk d + 1
  | .slice elems spare => uptoBulkAll elems + uptoBulkAll spare + 1
  | .agg parts => uptoBulkAll parts + 1
  | .iface _ d => uptoBulk d + 1
  | .map entries => uptoBulkEntries entries + 1
  | .held _ => 1
def uptoBulkAll {H : Type} : List (DataW H) → Nat
  | [] => 0
  | d :: r => uptoBulk d + uptoBulkAll r
def uptoBulkEntries {H : Type} : List (Lit × DataW H) → Nat
  | [] => 0
  | x :: r => uptoBulkEntry x + uptoBulkEntries r
def uptoBulkEntry {H : Type} : Lit × DataW H → Nat
  | (.string bytes, d) => bytes.length + uptoBulk d + 1
  | (_, d) => uptoBulk d + 1
 end
def uptoSmall : (H : Type) → List (DataW H) → Bool := fun _ ds => decide (uptoBulkAll ds ≤ 1048576)
def OpenSpec.upto (s : _root_.Go.ChangeSpec) : _root_.Go.OpenSpec := { _root_.Go.OpenSpec.ofChange s with cond := some uptoSmall }

/-- 'wringerlaw18.HctrKeys', WHERE WHAT IT READS IS OF BULK AT MOST 1048576: true; the input reads as it did. -/
def hctrKeysUptoRow : OpenClaim := { program := "ytdfbcdgneboilaadoor", sum := "d7fdf18d161f95d0b62f36cdb02b7d6ee669d3fe95c60e4b6b134fadada94914", func := "wringer/wringerlaw18.HctrKeys", spec := "hctrKeys", inPlace := ["math.archTrunc", "math.Float64bits", "math.Float64frombits", "math/bits.Add64"], unfollowed := true, recurses := true, named := ["wringer/turn.mixing", "wringer/turn.unmixing"], apart := false, laid := [("wringer/turn.mixing", laid_wringer_turn_mixing), ("wringer/turn.unmixing", laid_wringer_turn_unmixing)], narrowed := true }
def HctrKeysUptoSaid : Prop := hctrKeysUptoRow.holds Tryd.pinned (OpenSpec.upto hctrKeysSpec)

/-- 'wringerlaw18.HctrBack', WHERE WHAT IT READS IS OF BULK AT MOST 1048576: true; the input reads as it did. -/
def hctrBackUptoRow : OpenClaim := { program := "ytdfbcdgneboilaadoor", sum := "d7fdf18d161f95d0b62f36cdb02b7d6ee669d3fe95c60e4b6b134fadada94914", func := "wringer/wringerlaw18.HctrBack", spec := "hctrBack", inPlace := ["math.archTrunc", "math.Float64bits", "math.Float64frombits", "math/bits.Add64"], unfollowed := true, recurses := true, named := ["wringer/turn.mixing", "wringer/turn.unmixing"], apart := false, laid := [("wringer/turn.mixing", laid_wringer_turn_mixing), ("wringer/turn.unmixing", laid_wringer_turn_unmixing)], narrowed := true }
def HctrBackUptoSaid : Prop := hctrBackUptoRow.holds Tryd.pinned (OpenSpec.upto hctrBackSpec)

/-- 'wringerlaw18.HctrApart', WHERE WHAT IT READS IS OF BULK AT MOST 1048576: true; the input reads as it did. -/
def hctrApartUptoRow : OpenClaim := { program := "ytdfbcdgneboilaadoor", sum := "d7fdf18d161f95d0b62f36cdb02b7d6ee669d3fe95c60e4b6b134fadada94914", func := "wringer/wringerlaw18.HctrApart", spec := "hctrApart", inPlace := ["math.archTrunc", "math.Float64bits", "math.Float64frombits", "math/bits.Add64"], unfollowed := true, recurses := true, named := ["wringer/turn.mixing", "wringer/turn.unmixing"], apart := false, laid := [("wringer/turn.mixing", laid_wringer_turn_mixing), ("wringer/turn.unmixing", laid_wringer_turn_unmixing)], narrowed := true }
def HctrApartUptoSaid : Prop := hctrApartUptoRow.holds Tryd.pinned (OpenSpec.upto hctrApartSpec)

/-- 'wringerlaw18.HctrSteps', WHERE WHAT IT READS IS OF BULK AT MOST 1048576: true; the input reads as it did. -/
def hctrStepsUptoRow : OpenClaim := { program := "ytdfbcdgneboilaadoor", sum := "d7fdf18d161f95d0b62f36cdb02b7d6ee669d3fe95c60e4b6b134fadada94914", func := "wringer/wringerlaw18.HctrSteps", spec := "hctrSteps", inPlace := ["math/bits.Add64", "math.archTrunc", "math.Float64bits", "math.Float64frombits"], unfollowed := true, recurses := true, named := ["wringer/turn.mixing", "wringer/turn.unmixing"], apart := false, laid := [("wringer/turn.mixing", laid_wringer_turn_mixing), ("wringer/turn.unmixing", laid_wringer_turn_unmixing)], narrowed := true }
def HctrStepsUptoSaid : Prop := hctrStepsUptoRow.holds Tryd.pinned (OpenSpec.upto hctrStepsSpec)

/-- 'wringerlaw18.HctrLeft', WHERE WHAT IT READS IS OF BULK AT MOST 1048576: true; the input reads as it did. -/
def hctrLeftUptoRow : OpenClaim := { program := "ytdfbcdgneboilaadoor", sum := "d7fdf18d161f95d0b62f36cdb02b7d6ee669d3fe95c60e4b6b134fadada94914", func := "wringer/wringerlaw18.HctrLeft", spec := "hctrLeft", inPlace := ["math.archTrunc", "math.Float64bits", "math.Float64frombits", "math/bits.Add64"], unfollowed := true, recurses := true, named := ["wringer/turn.mixing", "wringer/turn.unmixing"], apart := false, laid := [("wringer/turn.mixing", laid_wringer_turn_mixing), ("wringer/turn.unmixing", laid_wringer_turn_unmixing)], narrowed := true }
def HctrLeftUptoSaid : Prop := hctrLeftUptoRow.holds Tryd.pinned (OpenSpec.upto hctrLeftSpec)

end Rows
end Go.Proofs.YtdfbcdgneboilaaDoor
