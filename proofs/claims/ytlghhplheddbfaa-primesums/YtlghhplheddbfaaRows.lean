/-
  No cell of these rows narrows 'for every input' (looked for: loops, veiled, ifaces, maps, wideKeys, modest, calm, conditions, laid).
  DERIVED. THE GIVEN ROWS OF THIS SEAT. 9 by the template 'for every input the law returns true; each argument reads behind the call as it read before'; 0 by the template 'total and deterministic' (their statements: YtlghhplheddbfaaTotals.lean).
  GIVEN WITH THE SEED: the statements are not yours to turn. If you find one false, say at which input.
  Laid BY PROGRAM, IN A SANDBOX (cutbox-rows.mjs): the forced cells as the released guide's own fill.sh prints them over the translation d3076711cef901c1… (all of the seat's roots in one cut). By AI agents, Wed Nov 11 2026. No macro, syntax, notation, axiom, sorry.
-/
import Derived.Test.YtlghhplheddbfaaChecked
import GoSem.Claim
import GoSem.ClaimJoined
import GoSem.ClaimMapViews
import Derived.JoinedTies
import Derived.KernelRfl
namespace Go.Proofs.Ytlghhplheddbfaa
/- THE CELL 'sum', in the pinned program and in every row, IS THE sha256 OF THE DUMP (.gsa) THAT YtlghhplheddbfaaProg.lean LOADS. Nothing in Lean hashes anything: it is a label: what it is worth is what the hold of that sum in a sandbox is worth. -/
noncomputable def Try.pinned : Pinned := { name := "ytlghhplheddbfaa", sum := "d3076711cef901c15ca05e916568af0f42397f0248d22ccc693ac38860d1ceef", checked := Try.checked }
namespace Rows
def none {H : Type} : Left H := { results := [], args := [] }

/-- 'wringerlaw07.PrimeMakes': WHATEVER THE INPUT: true; the input reads as it did. -/
def primeMakesSpec : ChangeSpec := { name := "primeMakes", fn := fun _ => fun
  | [d1, d2] => { results := [.lit (.bool true)], args := [d1, d2] }
  | _ => none }
def primeMakesRow : OpenClaim := { program := "ytlghhplheddbfaa", sum := "d3076711cef901c15ca05e916568af0f42397f0248d22ccc693ac38860d1ceef", func := "wringer/wringerlaw07.PrimeMakes", spec := "primeMakes", unfollowed := true, recurses := true, apart := false }
def PrimeMakesSaid : Prop := primeMakesRow.holds Try.pinned (OpenSpec.ofChange primeMakesSpec)

/-- ITS FALSE NEIGHBOUR: 'it returns false'. Refute it at one input. -/
def primeMakesWrong : ChangeSpec := { name := "primeMakes", fn := fun _ => fun
  | [d1, d2] => { results := [.lit (.bool false)], args := [d1, d2] }
  | _ => none }
def PrimeMakesWrongFalsely : Prop := primeMakesRow.holds Try.pinned (OpenSpec.ofChange primeMakesWrong)

/-- 'wringerlaw07.PrimeForms': WHATEVER THE INPUT: true; the input reads as it did. -/
def primeFormsSpec : ChangeSpec := { name := "primeForms", fn := fun _ => fun
  | [d] => { results := [.lit (.bool true)], args := [d] }
  | _ => none }
def primeFormsRow : OpenClaim := { program := "ytlghhplheddbfaa", sum := "d3076711cef901c15ca05e916568af0f42397f0248d22ccc693ac38860d1ceef", func := "wringer/wringerlaw07.PrimeForms", spec := "primeForms", inPlace := ["math/bits.Add64"], apart := false }
def PrimeFormsSaid : Prop := primeFormsRow.holds Try.pinned (OpenSpec.ofChange primeFormsSpec)

/-- ITS FALSE NEIGHBOUR: 'it returns false'. Refute it at one input. -/
def primeFormsWrong : ChangeSpec := { name := "primeForms", fn := fun _ => fun
  | [d] => { results := [.lit (.bool false)], args := [d] }
  | _ => none }
def PrimeFormsWrongFalsely : Prop := primeFormsRow.holds Try.pinned (OpenSpec.ofChange primeFormsWrong)

/-- 'wringerlaw07.PrimeSums': WHATEVER THE INPUT: true; the input reads as it did. -/
def primeSumsSpec : ChangeSpec := { name := "primeSums", fn := fun _ => fun
  | [d1, d2] => { results := [.lit (.bool true)], args := [d1, d2] }
  | _ => none }
def primeSumsRow : OpenClaim := { program := "ytlghhplheddbfaa", sum := "d3076711cef901c15ca05e916568af0f42397f0248d22ccc693ac38860d1ceef", func := "wringer/wringerlaw07.PrimeSums", spec := "primeSums", apart := false }
def PrimeSumsSaid : Prop := primeSumsRow.holds Try.pinned (OpenSpec.ofChange primeSumsSpec)

/-- ITS FALSE NEIGHBOUR: 'it returns false'. Refute it at one input. -/
def primeSumsWrong : ChangeSpec := { name := "primeSums", fn := fun _ => fun
  | [d1, d2] => { results := [.lit (.bool false)], args := [d1, d2] }
  | _ => none }
def PrimeSumsWrongFalsely : Prop := primeSumsRow.holds Try.pinned (OpenSpec.ofChange primeSumsWrong)

/-- 'wringerlaw07.PrimeProducts': WHATEVER THE INPUT: true; the input reads as it did. -/
def primeProductsSpec : ChangeSpec := { name := "primeProducts", fn := fun _ => fun
  | [d1, d2] => { results := [.lit (.bool true)], args := [d1, d2] }
  | _ => none }
def primeProductsRow : OpenClaim := { program := "ytlghhplheddbfaa", sum := "d3076711cef901c15ca05e916568af0f42397f0248d22ccc693ac38860d1ceef", func := "wringer/wringerlaw07.PrimeProducts", spec := "primeProducts", apart := false }
def PrimeProductsSaid : Prop := primeProductsRow.holds Try.pinned (OpenSpec.ofChange primeProductsSpec)

/-- ITS FALSE NEIGHBOUR: 'it returns false'. Refute it at one input. -/
def primeProductsWrong : ChangeSpec := { name := "primeProducts", fn := fun _ => fun
  | [d1, d2] => { results := [.lit (.bool false)], args := [d1, d2] }
  | _ => none }
def PrimeProductsWrongFalsely : Prop := primeProductsRow.holds Try.pinned (OpenSpec.ofChange primeProductsWrong)

/-- 'wringerlaw07.PrimeRing': WHATEVER THE INPUT: true; the input reads as it did. -/
def primeRingSpec : ChangeSpec := { name := "primeRing", fn := fun _ => fun
  | [d1, d2, d3] => { results := [.lit (.bool true)], args := [d1, d2, d3] }
  | _ => none }
def primeRingRow : OpenClaim := { program := "ytlghhplheddbfaa", sum := "d3076711cef901c15ca05e916568af0f42397f0248d22ccc693ac38860d1ceef", func := "wringer/wringerlaw07.PrimeRing", spec := "primeRing", apart := false }
def PrimeRingSaid : Prop := primeRingRow.holds Try.pinned (OpenSpec.ofChange primeRingSpec)

/-- ITS FALSE NEIGHBOUR: 'it returns false'. Refute it at one input. -/
def primeRingWrong : ChangeSpec := { name := "primeRing", fn := fun _ => fun
  | [d1, d2, d3] => { results := [.lit (.bool false)], args := [d1, d2, d3] }
  | _ => none }
def PrimeRingWrongFalsely : Prop := primeRingRow.holds Try.pinned (OpenSpec.ofChange primeRingWrong)

/-- 'wringerlaw07.PrimeBack': WHATEVER THE INPUT: true; the input reads as it did. -/
def primeBackSpec : ChangeSpec := { name := "primeBack", fn := fun _ => fun
  | [d1, d2] => { results := [.lit (.bool true)], args := [d1, d2] }
  | _ => none }
def primeBackRow : OpenClaim := { program := "ytlghhplheddbfaa", sum := "d3076711cef901c15ca05e916568af0f42397f0248d22ccc693ac38860d1ceef", func := "wringer/wringerlaw07.PrimeBack", spec := "primeBack", inPlace := ["math/bits.Add64"], unfollowed := true, recurses := true, apart := false }
def PrimeBackSaid : Prop := primeBackRow.holds Try.pinned (OpenSpec.ofChange primeBackSpec)

/-- ITS FALSE NEIGHBOUR: 'it returns false'. Refute it at one input. -/
def primeBackWrong : ChangeSpec := { name := "primeBack", fn := fun _ => fun
  | [d1, d2] => { results := [.lit (.bool false)], args := [d1, d2] }
  | _ => none }
def PrimeBackWrongFalsely : Prop := primeBackRow.holds Try.pinned (OpenSpec.ofChange primeBackWrong)

/-- 'wringerlaw07.PrimeCancel': WHATEVER THE INPUT: true; the input reads as it did. -/
def primeCancelSpec : ChangeSpec := { name := "primeCancel", fn := fun _ => fun
  | [d1, d2, d3] => { results := [.lit (.bool true)], args := [d1, d2, d3] }
  | _ => none }
def primeCancelRow : OpenClaim := { program := "ytlghhplheddbfaa", sum := "d3076711cef901c15ca05e916568af0f42397f0248d22ccc693ac38860d1ceef", func := "wringer/wringerlaw07.PrimeCancel", spec := "primeCancel", apart := false }
def PrimeCancelSaid : Prop := primeCancelRow.holds Try.pinned (OpenSpec.ofChange primeCancelSpec)

/-- ITS FALSE NEIGHBOUR: 'it returns false'. Refute it at one input. -/
def primeCancelWrong : ChangeSpec := { name := "primeCancel", fn := fun _ => fun
  | [d1, d2, d3] => { results := [.lit (.bool false)], args := [d1, d2, d3] }
  | _ => none }
def PrimeCancelWrongFalsely : Prop := primeCancelRow.holds Try.pinned (OpenSpec.ofChange primeCancelWrong)

/-- 'wringerlaw07.PrimeField': WHATEVER THE INPUT: true; the input reads as it did. -/
def primeFieldSpec : ChangeSpec := { name := "primeField", fn := fun _ => fun
  | [d1, d2, d3] => { results := [.lit (.bool true)], args := [d1, d2, d3] }
  | _ => none }
def primeFieldRow : OpenClaim := { program := "ytlghhplheddbfaa", sum := "d3076711cef901c15ca05e916568af0f42397f0248d22ccc693ac38860d1ceef", func := "wringer/wringerlaw07.PrimeField", spec := "primeField", apart := false }
def PrimeFieldSaid : Prop := primeFieldRow.holds Try.pinned (OpenSpec.ofChange primeFieldSpec)

/-- ITS FALSE NEIGHBOUR: 'it returns false'. Refute it at one input. -/
def primeFieldWrong : ChangeSpec := { name := "primeField", fn := fun _ => fun
  | [d1, d2, d3] => { results := [.lit (.bool false)], args := [d1, d2, d3] }
  | _ => none }
def PrimeFieldWrongFalsely : Prop := primeFieldRow.holds Try.pinned (OpenSpec.ofChange primeFieldWrong)

/-- 'wringerlaw07.PrimeFold': WHATEVER THE INPUT: true; the input reads as it did. -/
def primeFoldSpec : ChangeSpec := { name := "primeFold", fn := fun _ => fun
  | [d] => { results := [.lit (.bool true)], args := [d] }
  | _ => none }
def primeFoldRow : OpenClaim := { program := "ytlghhplheddbfaa", sum := "d3076711cef901c15ca05e916568af0f42397f0248d22ccc693ac38860d1ceef", func := "wringer/wringerlaw07.PrimeFold", spec := "primeFold", apart := false }
def PrimeFoldSaid : Prop := primeFoldRow.holds Try.pinned (OpenSpec.ofChange primeFoldSpec)

/-- ITS FALSE NEIGHBOUR: 'it returns false'. Refute it at one input. -/
def primeFoldWrong : ChangeSpec := { name := "primeFold", fn := fun _ => fun
  | [d] => { results := [.lit (.bool false)], args := [d] }
  | _ => none }
def PrimeFoldWrongFalsely : Prop := primeFoldRow.holds Try.pinned (OpenSpec.ofChange primeFoldWrong)

/- THE SECOND FORM. 'bulk': how many values and letters a reading holds, each counted each time it is reached (what is shared counts as often as it is met; a slice's spare places count too). A statement '..UptoSaid' is the law's where the arguments, and the package variables that the reading takes, are together of bulk at most 1048576: NARROWER than '..Said'. Prove '..Said' where nothing that the law and all that it calls make is longer than what came in: it says more and counts as full. Else prove '..UptoSaid'. A law counts once. -/
mutual
def uptoBulk {H : Type} : DataW H → Nat
  | .lit (.string bytes) => bytes.length + 1
  | .lit _ => 1
  | .nil => 1
  | .ptr d => uptoBulk d + 1
  | .slice elems spare => uptoBulkAll elems + uptoBulkAll spare + 1
  | .agg parts => uptoBulkAll parts + 1
  | .iface _ d => uptoBulk d + 1
  | .map entries => uptoBulkEntries entries + 1
  | .held _ => 1
def uptoBulkAll {H : Type} : List (DataW H) → Nat
  | [] => 0
  | d :: r => uptoBulk d + uptoBulkAll r
def uptoBulkEntries {H : Type} : List (Lit × DataW H) → Nat
  | [] => 0
  | x :: r => uptoBulkEntry x + uptoBulkEntries r
def uptoBulkEntry {H : Type} : Lit × DataW H → Nat
  | (.string bytes, d) => bytes.length + uptoBulk d + 1
  | (_, d) => uptoBulk d + 1
 end
def uptoSmall : (H : Type) → List (DataW H) → Bool := fun _ ds => decide (uptoBulkAll ds ≤ 1048576)
def OpenSpec.upto (s : _root_.Go.ChangeSpec) : _root_.Go.OpenSpec := { _root_.Go.OpenSpec.ofChange s with cond := some uptoSmall }

/-- 'wringerlaw07.PrimeMakes', WHERE WHAT IT READS IS OF BULK AT MOST 1048576: true; the input reads as it did. -/
def primeMakesUptoRow : OpenClaim := { program := "ytlghhplheddbfaa", sum := "d3076711cef901c15ca05e916568af0f42397f0248d22ccc693ac38860d1ceef", func := "wringer/wringerlaw07.PrimeMakes", spec := "primeMakes", unfollowed := true, recurses := true, apart := false, narrowed := true }
def PrimeMakesUptoSaid : Prop := primeMakesUptoRow.holds Try.pinned (OpenSpec.upto primeMakesSpec)

/-- 'wringerlaw07.PrimeForms', WHERE WHAT IT READS IS OF BULK AT MOST 1048576: true; the input reads as it did. -/
def primeFormsUptoRow : OpenClaim := { program := "ytlghhplheddbfaa", sum := "d3076711cef901c15ca05e916568af0f42397f0248d22ccc693ac38860d1ceef", func := "wringer/wringerlaw07.PrimeForms", spec := "primeForms", inPlace := ["math/bits.Add64"], apart := false, narrowed := true }
def PrimeFormsUptoSaid : Prop := primeFormsUptoRow.holds Try.pinned (OpenSpec.upto primeFormsSpec)

/-- 'wringerlaw07.PrimeSums', WHERE WHAT IT READS IS OF BULK AT MOST 1048576: true; the input reads as it did. -/
def primeSumsUptoRow : OpenClaim := { program := "ytlghhplheddbfaa", sum := "d3076711cef901c15ca05e916568af0f42397f0248d22ccc693ac38860d1ceef", func := "wringer/wringerlaw07.PrimeSums", spec := "primeSums", apart := false, narrowed := true }
def PrimeSumsUptoSaid : Prop := primeSumsUptoRow.holds Try.pinned (OpenSpec.upto primeSumsSpec)

/-- 'wringerlaw07.PrimeProducts', WHERE WHAT IT READS IS OF BULK AT MOST 1048576: true; the input reads as it did. -/
def primeProductsUptoRow : OpenClaim := { program := "ytlghhplheddbfaa", sum := "d3076711cef901c15ca05e916568af0f42397f0248d22ccc693ac38860d1ceef", func := "wringer/wringerlaw07.PrimeProducts", spec := "primeProducts", apart := false, narrowed := true }
def PrimeProductsUptoSaid : Prop := primeProductsUptoRow.holds Try.pinned (OpenSpec.upto primeProductsSpec)

/-- 'wringerlaw07.PrimeRing', WHERE WHAT IT READS IS OF BULK AT MOST 1048576: true; the input reads as it did. -/
def primeRingUptoRow : OpenClaim := { program := "ytlghhplheddbfaa", sum := "d3076711cef901c15ca05e916568af0f42397f0248d22ccc693ac38860d1ceef", func := "wringer/wringerlaw07.PrimeRing", spec := "primeRing", apart := false, narrowed := true }
def PrimeRingUptoSaid : Prop := primeRingUptoRow.holds Try.pinned (OpenSpec.upto primeRingSpec)

/-- 'wringerlaw07.PrimeBack', WHERE WHAT IT READS IS OF BULK AT MOST 1048576: true; the input reads as it did. -/
def primeBackUptoRow : OpenClaim := { program := "ytlghhplheddbfaa", sum := "d3076711cef901c15ca05e916568af0f42397f0248d22ccc693ac38860d1ceef", func := "wringer/wringerlaw07.PrimeBack", spec := "primeBack", inPlace := ["math/bits.Add64"], unfollowed := true, recurses := true, apart := false, narrowed := true }
def PrimeBackUptoSaid : Prop := primeBackUptoRow.holds Try.pinned (OpenSpec.upto primeBackSpec)

/-- 'wringerlaw07.PrimeCancel', WHERE WHAT IT READS IS OF BULK AT MOST 1048576: true; the input reads as it did. -/
def primeCancelUptoRow : OpenClaim := { program := "ytlghhplheddbfaa", sum := "d3076711cef901c15ca05e916568af0f42397f0248d22ccc693ac38860d1ceef", func := "wringer/wringerlaw07.PrimeCancel", spec := "primeCancel", apart := false, narrowed := true }
def PrimeCancelUptoSaid : Prop := primeCancelUptoRow.holds Try.pinned (OpenSpec.upto primeCancelSpec)

/-- 'wringerlaw07.PrimeField', WHERE WHAT IT READS IS OF BULK AT MOST 1048576: true; the input reads as it did. -/
def primeFieldUptoRow : OpenClaim := { program := "ytlghhplheddbfaa", sum := "d3076711cef901c15ca05e916568af0f42397f0248d22ccc693ac38860d1ceef", func := "wringer/wringerlaw07.PrimeField", spec := "primeField", apart := false, narrowed := true }
def PrimeFieldUptoSaid : Prop := primeFieldUptoRow.holds Try.pinned (OpenSpec.upto primeFieldSpec)

/-- 'wringerlaw07.PrimeFold', WHERE WHAT IT READS IS OF BULK AT MOST 1048576: true; the input reads as it did. -/
def primeFoldUptoRow : OpenClaim := { program := "ytlghhplheddbfaa", sum := "d3076711cef901c15ca05e916568af0f42397f0248d22ccc693ac38860d1ceef", func := "wringer/wringerlaw07.PrimeFold", spec := "primeFold", apart := false, narrowed := true }
def PrimeFoldUptoSaid : Prop := primeFoldUptoRow.holds Try.pinned (OpenSpec.upto primeFoldSpec)

end Rows
end Go.Proofs.Ytlghhplheddbfaa
