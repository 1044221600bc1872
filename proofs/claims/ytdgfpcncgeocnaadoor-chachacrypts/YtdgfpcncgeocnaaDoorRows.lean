/-
  NARROWER THAN 'FOR EVERY INPUT', by the rows' own cells (each row's printed sentence says how): ChachaMixes: laid · ChachaBlocks: laid · ChachaCrypts: laid · ChachaBack: laid · ChachaApart: laid · ChachaRows: laid · ChachaHalf: laid · ChachaStream: laid · ChachaLetters: laid.
  DERIVED. THE GIVEN ROWS OF THIS SEAT. 9 by the template 'for every input the law returns true; each argument reads behind the call as it read before'; 0 by the template 'total and deterministic' (their statements: YtdgfpcncgeocnaaDoorTotals.lean).
  GIVEN WITH THE SEED: the statements are not yours to turn. If you find one false, say at which input.
  Laid BY PROGRAM, IN A SANDBOX (cutbox-rows.mjs): the forced cells as the released guide's own fill.sh prints them over the translation d7887b33c6287f14… (all of the seat's roots in one cut). By AI agents, Wed Nov 11 2026. No macro, syntax, notation, axiom, sorry.
-/
import Derived.Test.YtdgfpcncgeocnaaDoorChecked
import GoSem.Claim
import GoSem.ClaimJoined
import GoSem.ClaimMapViews
import Derived.JoinedTies
import Derived.KernelRfl
namespace Go.Proofs.YtdgfpcncgeocnaaDoor
/- THE CELL 'sum', in the pinned program and in every row, IS THE sha256 OF THE DUMP (.gsa) THAT YtdgfpcncgeocnaaDoorProg.lean LOADS. Nothing in Lean hashes anything: it is a label: what it is worth is what the hold of that sum in a sandbox is worth. -/
noncomputable def Tryd.pinned : Pinned := { name := "ytdgfpcncgeocnaadoor", sum := "d7887b33c6287f1451c3c93c2f0c632f9f4026b5567c6a567d000b7bc334be19", checked := Tryd.checked }
namespace Rows
def none {H : Type} : Left H := { results := [], args := [] }

/- WHAT THE LISTED PACKAGE-LEVEL VARIABLES READ AS WHEN THE CALL BEGINS. Each datum BY PROGRAM (the guide's laid-datum.mjs) off the statement by which the dump's own 'gosem.cut.vars' lays the variable. In a bare row this is a premise. The card (YtdgfpcncgeocnaaDoorCards.lean) ties it to the program's text. -/
def laid_wringer_chacha_letters {H : Type} : DataW H := .agg [.lit (.int .u32 1634760805), .lit (.int .u32 857760878), .lit (.int .u32 2036477234), .lit (.int .u32 1797285236)]

/-- 'wringerlaw05.ChachaMixes': WHATEVER THE INPUT: true; the input reads as it did. -/
def chachaMixesSpec : ChangeSpec := { name := "chachaMixes", fn := fun _ => fun
  | [d1, d2] => { results := [.lit (.bool true)], args := [d1, d2] }
  | _ => none }
def chachaMixesRow : OpenClaim := { program := "ytdgfpcncgeocnaadoor", sum := "d7887b33c6287f1451c3c93c2f0c632f9f4026b5567c6a567d000b7bc334be19", func := "wringer/wringerlaw05.ChachaMixes", spec := "chachaMixes", unfollowed := true, recurses := true, named := ["wringer/chacha.letters"], apart := false, laid := [("wringer/chacha.letters", laid_wringer_chacha_letters)] }
def ChachaMixesSaid : Prop := chachaMixesRow.holds Tryd.pinned (OpenSpec.ofChange chachaMixesSpec)

/-- ITS FALSE NEIGHBOUR: 'it returns false'. Refute it at one input. -/
def chachaMixesWrong : ChangeSpec := { name := "chachaMixes", fn := fun _ => fun
  | [d1, d2] => { results := [.lit (.bool false)], args := [d1, d2] }
  | _ => none }
def ChachaMixesWrongFalsely : Prop := chachaMixesRow.holds Tryd.pinned (OpenSpec.ofChange chachaMixesWrong)

/-- 'wringerlaw05.ChachaBlocks': WHATEVER THE INPUT: true; the input reads as it did. -/
def chachaBlocksSpec : ChangeSpec := { name := "chachaBlocks", fn := fun _ => fun
  | [d1, d2, d3] => { results := [.lit (.bool true)], args := [d1, d2, d3] }
  | _ => none }
def chachaBlocksRow : OpenClaim := { program := "ytdgfpcncgeocnaadoor", sum := "d7887b33c6287f1451c3c93c2f0c632f9f4026b5567c6a567d000b7bc334be19", func := "wringer/wringerlaw05.ChachaBlocks", spec := "chachaBlocks", unfollowed := true, recurses := true, named := ["wringer/chacha.letters"], apart := false, laid := [("wringer/chacha.letters", laid_wringer_chacha_letters)] }
def ChachaBlocksSaid : Prop := chachaBlocksRow.holds Tryd.pinned (OpenSpec.ofChange chachaBlocksSpec)

/-- ITS FALSE NEIGHBOUR: 'it returns false'. Refute it at one input. -/
def chachaBlocksWrong : ChangeSpec := { name := "chachaBlocks", fn := fun _ => fun
  | [d1, d2, d3] => { results := [.lit (.bool false)], args := [d1, d2, d3] }
  | _ => none }
def ChachaBlocksWrongFalsely : Prop := chachaBlocksRow.holds Tryd.pinned (OpenSpec.ofChange chachaBlocksWrong)

/-- 'wringerlaw05.ChachaCrypts': WHATEVER THE INPUT: true; the input reads as it did. -/
def chachaCryptsSpec : ChangeSpec := { name := "chachaCrypts", fn := fun _ => fun
  | [d] => { results := [.lit (.bool true)], args := [d] }
  | _ => none }
def chachaCryptsRow : OpenClaim := { program := "ytdgfpcncgeocnaadoor", sum := "d7887b33c6287f1451c3c93c2f0c632f9f4026b5567c6a567d000b7bc334be19", func := "wringer/wringerlaw05.ChachaCrypts", spec := "chachaCrypts", unfollowed := true, recurses := true, named := ["wringer/chacha.letters"], apart := false, laid := [("wringer/chacha.letters", laid_wringer_chacha_letters)] }
def ChachaCryptsSaid : Prop := chachaCryptsRow.holds Tryd.pinned (OpenSpec.ofChange chachaCryptsSpec)

/-- ITS FALSE NEIGHBOUR: 'it returns false'. Refute it at one input. -/
def chachaCryptsWrong : ChangeSpec := { name := "chachaCrypts", fn := fun _ => fun
  | [d] => { results := [.lit (.bool false)], args := [d] }
  | _ => none }
def ChachaCryptsWrongFalsely : Prop := chachaCryptsRow.holds Tryd.pinned (OpenSpec.ofChange chachaCryptsWrong)

/-- 'wringerlaw05.ChachaBack': WHATEVER THE INPUT: true; the input reads as it did. -/
def chachaBackSpec : ChangeSpec := { name := "chachaBack", fn := fun _ => fun
  | [d] => { results := [.lit (.bool true)], args := [d] }
  | _ => none }
def chachaBackRow : OpenClaim := { program := "ytdgfpcncgeocnaadoor", sum := "d7887b33c6287f1451c3c93c2f0c632f9f4026b5567c6a567d000b7bc334be19", func := "wringer/wringerlaw05.ChachaBack", spec := "chachaBack", unfollowed := true, recurses := true, named := ["wringer/chacha.letters"], apart := false, laid := [("wringer/chacha.letters", laid_wringer_chacha_letters)] }
def ChachaBackSaid : Prop := chachaBackRow.holds Tryd.pinned (OpenSpec.ofChange chachaBackSpec)

/-- ITS FALSE NEIGHBOUR: 'it returns false'. Refute it at one input. -/
def chachaBackWrong : ChangeSpec := { name := "chachaBack", fn := fun _ => fun
  | [d] => { results := [.lit (.bool false)], args := [d] }
  | _ => none }
def ChachaBackWrongFalsely : Prop := chachaBackRow.holds Tryd.pinned (OpenSpec.ofChange chachaBackWrong)

/-- 'wringerlaw05.ChachaApart': WHATEVER THE INPUT: true; the input reads as it did. -/
def chachaApartSpec : ChangeSpec := { name := "chachaApart", fn := fun _ => fun
  | [d1, d2, d3] => { results := [.lit (.bool true)], args := [d1, d2, d3] }
  | _ => none }
def chachaApartRow : OpenClaim := { program := "ytdgfpcncgeocnaadoor", sum := "d7887b33c6287f1451c3c93c2f0c632f9f4026b5567c6a567d000b7bc334be19", func := "wringer/wringerlaw05.ChachaApart", spec := "chachaApart", unfollowed := true, recurses := true, named := ["wringer/chacha.letters"], apart := false, laid := [("wringer/chacha.letters", laid_wringer_chacha_letters)] }
def ChachaApartSaid : Prop := chachaApartRow.holds Tryd.pinned (OpenSpec.ofChange chachaApartSpec)

/-- ITS FALSE NEIGHBOUR: 'it returns false'. Refute it at one input. -/
def chachaApartWrong : ChangeSpec := { name := "chachaApart", fn := fun _ => fun
  | [d1, d2, d3] => { results := [.lit (.bool false)], args := [d1, d2, d3] }
  | _ => none }
def ChachaApartWrongFalsely : Prop := chachaApartRow.holds Tryd.pinned (OpenSpec.ofChange chachaApartWrong)

/-- 'wringerlaw05.ChachaRows': WHATEVER THE INPUT: true; the input reads as it did. -/
def chachaRowsSpec : ChangeSpec := { name := "chachaRows", fn := fun _ => fun
  | [d1, d2, d3] => { results := [.lit (.bool true)], args := [d1, d2, d3] }
  | _ => none }
def chachaRowsRow : OpenClaim := { program := "ytdgfpcncgeocnaadoor", sum := "d7887b33c6287f1451c3c93c2f0c632f9f4026b5567c6a567d000b7bc334be19", func := "wringer/wringerlaw05.ChachaRows", spec := "chachaRows", unfollowed := true, recurses := true, named := ["wringer/chacha.letters"], apart := false, laid := [("wringer/chacha.letters", laid_wringer_chacha_letters)] }
def ChachaRowsSaid : Prop := chachaRowsRow.holds Tryd.pinned (OpenSpec.ofChange chachaRowsSpec)

/-- ITS FALSE NEIGHBOUR: 'it returns false'. Refute it at one input. -/
def chachaRowsWrong : ChangeSpec := { name := "chachaRows", fn := fun _ => fun
  | [d1, d2, d3] => { results := [.lit (.bool false)], args := [d1, d2, d3] }
  | _ => none }
def ChachaRowsWrongFalsely : Prop := chachaRowsRow.holds Tryd.pinned (OpenSpec.ofChange chachaRowsWrong)

/-- 'wringerlaw05.ChachaHalf': WHATEVER THE INPUT: true; the input reads as it did. -/
def chachaHalfSpec : ChangeSpec := { name := "chachaHalf", fn := fun _ => fun
  | [d1, d2, d3] => { results := [.lit (.bool true)], args := [d1, d2, d3] }
  | _ => none }
def chachaHalfRow : OpenClaim := { program := "ytdgfpcncgeocnaadoor", sum := "d7887b33c6287f1451c3c93c2f0c632f9f4026b5567c6a567d000b7bc334be19", func := "wringer/wringerlaw05.ChachaHalf", spec := "chachaHalf", unfollowed := true, recurses := true, named := ["wringer/chacha.letters"], apart := false, laid := [("wringer/chacha.letters", laid_wringer_chacha_letters)] }
def ChachaHalfSaid : Prop := chachaHalfRow.holds Tryd.pinned (OpenSpec.ofChange chachaHalfSpec)

/-- ITS FALSE NEIGHBOUR: 'it returns false'. Refute it at one input. -/
def chachaHalfWrong : ChangeSpec := { name := "chachaHalf", fn := fun _ => fun
  | [d1, d2, d3] => { results := [.lit (.bool false)], args := [d1, d2, d3] }
  | _ => none }
def ChachaHalfWrongFalsely : Prop := chachaHalfRow.holds Tryd.pinned (OpenSpec.ofChange chachaHalfWrong)

/-- 'wringerlaw05.ChachaStream': WHATEVER THE INPUT: true; the input reads as it did. -/
def chachaStreamSpec : ChangeSpec := { name := "chachaStream", fn := fun _ => fun
  | [d] => { results := [.lit (.bool true)], args := [d] }
  | _ => none }
def chachaStreamRow : OpenClaim := { program := "ytdgfpcncgeocnaadoor", sum := "d7887b33c6287f1451c3c93c2f0c632f9f4026b5567c6a567d000b7bc334be19", func := "wringer/wringerlaw05.ChachaStream", spec := "chachaStream", unfollowed := true, recurses := true, named := ["wringer/chacha.letters"], apart := false, laid := [("wringer/chacha.letters", laid_wringer_chacha_letters)] }
def ChachaStreamSaid : Prop := chachaStreamRow.holds Tryd.pinned (OpenSpec.ofChange chachaStreamSpec)

/-- ITS FALSE NEIGHBOUR: 'it returns false'. Refute it at one input. -/
def chachaStreamWrong : ChangeSpec := { name := "chachaStream", fn := fun _ => fun
  | [d] => { results := [.lit (.bool false)], args := [d] }
  | _ => none }
def ChachaStreamWrongFalsely : Prop := chachaStreamRow.holds Tryd.pinned (OpenSpec.ofChange chachaStreamWrong)

/-- 'wringerlaw05.ChachaLetters': WHATEVER THE INPUT: true; the input reads as it did. -/
def chachaLettersSpec : ChangeSpec := { name := "chachaLetters", fn := fun _ => fun
  | [d1, d2] => { results := [.lit (.bool true)], args := [d1, d2] }
  | _ => none }
def chachaLettersRow : OpenClaim := { program := "ytdgfpcncgeocnaadoor", sum := "d7887b33c6287f1451c3c93c2f0c632f9f4026b5567c6a567d000b7bc334be19", func := "wringer/wringerlaw05.ChachaLetters", spec := "chachaLetters", unfollowed := true, recurses := true, named := ["wringer/chacha.letters"], apart := false, laid := [("wringer/chacha.letters", laid_wringer_chacha_letters)] }
def ChachaLettersSaid : Prop := chachaLettersRow.holds Tryd.pinned (OpenSpec.ofChange chachaLettersSpec)

/-- ITS FALSE NEIGHBOUR: 'it returns false'. Refute it at one input. -/
def chachaLettersWrong : ChangeSpec := { name := "chachaLetters", fn := fun _ => fun
  | [d1, d2] => { results := [.lit (.bool false)], args := [d1, d2] }
  | _ => none }
def ChachaLettersWrongFalsely : Prop := chachaLettersRow.holds Tryd.pinned (OpenSpec.ofChange chachaLettersWrong)

/- THE SECOND FORM. 'bulk': how many values and letters a reading holds, each counted each time it is reached (what is shared counts as often as it is met; a slice's spare places count too). A statement '..UptoSaid' is the law's where the arguments, and the package variables that the reading takes, are together of bulk at most 1048576: NARROWER than '..Said'. Prove '..Said' where nothing that the law and all that it calls make is longer than what came in: it says more and counts as full. Else prove '..UptoSaid'. A law counts once. -/
mutual
def uptoBulk {H : Type} : DataW H → Nat
  | .lit (.string bytes) => bytes.length + 1
  | .lit _ => 1
  | .nil => 1
  | .ptr d => uptoBulk d + 1
  | .slice elems spare => uptoBulkAll elems + uptoBulkAll spare + 1
  | .agg parts => uptoBulkAll parts + 1
  | .iface _ d => uptoBulk d + 1
  | .map entries => uptoBulkEntries entries + 1
  | .held _ => 1
def uptoBulkAll {H : Type} : List (DataW H) → Nat
  | [] => 0
  | d :: r => uptoBulk d + uptoBulkAll r
def uptoBulkEntries {H : Type} : List (Lit × DataW H) → Nat
  | [] => 0
  | x :: r => uptoBulkEntry x + uptoBulkEntries r
def uptoBulkEntry {H : Type} : Lit × DataW H → Nat
  | (.string bytes, d) => bytes.length + uptoBulk d + 1
  | (_, d) => uptoBulk d + 1
 end
def uptoSmall : (H : Type) → List (DataW H) → Bool := fun _ ds => decide (uptoBulkAll ds ≤ 1048576)
def OpenSpec.upto (s : _root_.Go.ChangeSpec) : _root_.Go.OpenSpec := { _root_.Go.OpenSpec.ofChange s with cond := some uptoSmall }

/-- 'wringerlaw05.ChachaMixes', WHERE WHAT IT READS IS OF BULK AT MOST 1048576: true; the input reads as it did. -/
def chachaMixesUptoRow : OpenClaim := { program := "ytdgfpcncgeocnaadoor", sum := "d7887b33c6287f1451c3c93c2f0c632f9f4026b5567c6a567d000b7bc334be19", func := "wringer/wringerlaw05.ChachaMixes", spec := "chachaMixes", unfollowed := true, recurses := true, named := ["wringer/chacha.letters"], apart := false, laid := [("wringer/chacha.letters", laid_wringer_chacha_letters)], narrowed := true }
def ChachaMixesUptoSaid : Prop := chachaMixesUptoRow.holds Tryd.pinned (OpenSpec.upto chachaMixesSpec)

/-- 'wringerlaw05.ChachaBlocks', WHERE WHAT IT READS IS OF BULK AT MOST 1048576: true; the input reads as it did. -/
def chachaBlocksUptoRow : OpenClaim := { program := "ytdgfpcncgeocnaadoor", sum := "d7887b33c6287f1451c3c93c2f0c632f9f4026b5567c6a567d000b7bc334be19", func := "wringer/wringerlaw05.ChachaBlocks", spec := "chachaBlocks", unfollowed := true, recurses := true, named := ["wringer/chacha.letters"], apart := false, laid := [("wringer/chacha.letters", laid_wringer_chacha_letters)], narrowed := true }
def ChachaBlocksUptoSaid : Prop := chachaBlocksUptoRow.holds Tryd.pinned (OpenSpec.upto chachaBlocksSpec)

/-- 'wringerlaw05.ChachaCrypts', WHERE WHAT IT READS IS OF BULK AT MOST 1048576: true; the input reads as it did. -/
def chachaCryptsUptoRow : OpenClaim := { program := "ytdgfpcncgeocnaadoor", sum := "d7887b33c6287f1451c3c93c2f0c632f9f4026b5567c6a567d000b7bc334be19", func := "wringer/wringerlaw05.ChachaCrypts", spec := "chachaCrypts", unfollowed := true, recurses := true, named := ["wringer/chacha.letters"], apart := false, laid := [("wringer/chacha.letters", laid_wringer_chacha_letters)], narrowed := true }
def ChachaCryptsUptoSaid : Prop := chachaCryptsUptoRow.holds Tryd.pinned (OpenSpec.upto chachaCryptsSpec)

/-- 'wringerlaw05.ChachaBack', WHERE WHAT IT READS IS OF BULK AT MOST 1048576: true; the input reads as it did. -/
def chachaBackUptoRow : OpenClaim := { program := "ytdgfpcncgeocnaadoor", sum := "d7887b33c6287f1451c3c93c2f0c632f9f4026b5567c6a567d000b7bc334be19", func := "wringer/wringerlaw05.ChachaBack", spec := "chachaBack", unfollowed := true, recurses := true, named := ["wringer/chacha.letters"], apart := false, laid := [("wringer/chacha.letters", laid_wringer_chacha_letters)], narrowed := true }
def ChachaBackUptoSaid : Prop := chachaBackUptoRow.holds Tryd.pinned (OpenSpec.upto chachaBackSpec)

/-- 'wringerlaw05.ChachaApart', WHERE WHAT IT READS IS OF BULK AT MOST 1048576: true; the input reads as it did. -/
def chachaApartUptoRow : OpenClaim := { program := "ytdgfpcncgeocnaadoor", sum := "d7887b33c6287f1451c3c93c2f0c632f9f4026b5567c6a567d000b7bc334be19", func := "wringer/wringerlaw05.ChachaApart", spec := "chachaApart", unfollowed := true, recurses := true, named := ["wringer/chacha.letters"], apart := false, laid := [("wringer/chacha.letters", laid_wringer_chacha_letters)], narrowed := true }
def ChachaApartUptoSaid : Prop := chachaApartUptoRow.holds Tryd.pinned (OpenSpec.upto chachaApartSpec)

/-- 'wringerlaw05.ChachaRows', WHERE WHAT IT READS IS OF BULK AT MOST 1048576: true; the input reads as it did. -/
def chachaRowsUptoRow : OpenClaim := { program := "ytdgfpcncgeocnaadoor", sum := "d7887b33c6287f1451c3c93c2f0c632f9f4026b5567c6a567d000b7bc334be19", func := "wringer/wringerlaw05.ChachaRows", spec := "chachaRows", unfollowed := true, recurses := true, named := ["wringer/chacha.letters"], apart := false, laid := [("wringer/chacha.letters", laid_wringer_chacha_letters)], narrowed := true }
def ChachaRowsUptoSaid : Prop := chachaRowsUptoRow.holds Tryd.pinned (OpenSpec.upto chachaRowsSpec)

/-- 'wringerlaw05.ChachaHalf', WHERE WHAT IT READS IS OF BULK AT MOST 1048576: true; the input reads as it did. -/
def chachaHalfUptoRow : OpenClaim := { program := "ytdgfpcncgeocnaadoor", sum := "d7887b33c6287f1451c3c93c2f0c632f9f4026b5567c6a567d000b7bc334be19", func := "wringer/wringerlaw05.ChachaHalf", spec := "chachaHalf", unfollowed := true, recurses := true, named := ["wringer/chacha.letters"], apart := false, laid := [("wringer/chacha.letters", laid_wringer_chacha_letters)], narrowed := true }
def ChachaHalfUptoSaid : Prop := chachaHalfUptoRow.holds Tryd.pinned (OpenSpec.upto chachaHalfSpec)

/-- 'wringerlaw05.ChachaStream', WHERE WHAT IT READS IS OF BULK AT MOST 1048576: true; the input reads as it did. -/
def chachaStreamUptoRow : OpenClaim := { program := "ytdgfpcncgeocnaadoor", sum := "d7887b33c6287f1451c3c93c2f0c632f9f4026b5567c6a567d000b7bc334be19", func := "wringer/wringerlaw05.ChachaStream", spec := "chachaStream", unfollowed := true, recurses := true, named := ["wringer/chacha.letters"], apart := false, laid := [("wringer/chacha.letters", laid_wringer_chacha_letters)], narrowed := true }
def ChachaStreamUptoSaid : Prop := chachaStreamUptoRow.holds Tryd.pinned (OpenSpec.upto chachaStreamSpec)

/-- 'wringerlaw05.ChachaLetters', WHERE WHAT IT READS IS OF BULK AT MOST 1048576: true; the input reads as it did. -/
def chachaLettersUptoRow : OpenClaim := { program := "ytdgfpcncgeocnaadoor", sum := "d7887b33c6287f1451c3c93c2f0c632f9f4026b5567c6a567d000b7bc334be19", func := "wringer/wringerlaw05.ChachaLetters", spec := "chachaLetters", unfollowed := true, recurses := true, named := ["wringer/chacha.letters"], apart := false, laid := [("wringer/chacha.letters", laid_wringer_chacha_letters)], narrowed := true }
def ChachaLettersUptoSaid : Prop := chachaLettersUptoRow.holds Tryd.pinned (OpenSpec.upto chachaLettersSpec)

end Rows
end Go.Proofs.YtdgfpcncgeocnaaDoor
