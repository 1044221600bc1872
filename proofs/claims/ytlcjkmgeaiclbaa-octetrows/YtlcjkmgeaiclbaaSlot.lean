/- Own: new variables among calls, in whatever order (no statement is proved here). -/
import Derived.Test.YtlcjkmgeaiclbaaArrEq
import Derived.Deep.DeepCutAuto
namespace Go.Proofs.Ytlcjkmgeaiclbaa
open Go.ChangeShapes Go.WideShapes Go.ChangeAt Go.RowKit

/-- A variable from B on that holds cs. -/
def Slot (B : Nat) (W : World) (g : Nat) (cs : List Value) (t : TypeId) : Prop := B ≤ g ∧ W.heap[g]? = some (.cells cs.toArray t (0, 0))
theorem Slot.later {B g : Nat} {W W' : World} {cs : List Value} {t : TypeId} (h : Slot B W g cs t) (hb : Below W.heap.size W W') : Slot B W' g cs t :=
  ⟨h.1, (hb.block g (Array.getElem?_eq_some_iff.1 h.2).1).trans h.2⟩
theorem Slot.new (B : Nat) (W : World) (cs : List Value) (t : TypeId) (h : B ≤ W.heap.size) : Slot B (W.alloc (.cells cs.toArray t)) W.heap.size cs t := ⟨h, heap_alloc_new _ _⟩
theorem Slot.lt {B g : Nat} {W : World} {cs : List Value} {t : TypeId} (h : Slot B W g cs t) : g < W.heap.size := (Array.getElem?_eq_some_iff.1 h.2).1
theorem Slot.cell {B g : Nat} {W : World} {cs : List Value} {t : TypeId} (h : Slot B W g cs t) (i : Nat) (v : Value) (hv : cs[i]? = some v) : W.cell? ⟨g, i, none⟩ = some v := by
  rw [cell_of_row W g _ _ _ _ h.2]; simpa using hv
theorem Slot.free {B g : Nat} {W : World} {cs : List Value} {t : TypeId} (h : Slot B W g cs t) (i : Nat) : W.frozen? ⟨g, i, none⟩ = false := frozen_of_row W _ _ _ _ h.2
theorem Slot.other {B g g' i : Nat} {W : World} {cs : List Value} {t : TypeId} {v : Value} (h : Slot B W g cs t) (hne : g ≠ g') : Slot B (W.setCell ⟨g', i, none⟩ v) g cs t :=
  ⟨h.1, by rw [heap_setCell_other _ _ _ _ hne]; exact h.2⟩
theorem Slot.set {B g i : Nat} {W : World} {cs : List Value} {t : TypeId} {v : Value} (h : Slot B W g cs t) : Slot B (W.setCell ⟨g, i, none⟩ v) g (cs.set i v) t :=
  ⟨h.1, by rw [heap_setCell_same _ _ _ _ _ _ h.2, List.setIfInBounds_toArray]⟩
theorem kept_below {W0 W W' : World} {p q : Nat} {X Y : List Value} (h : Below W0.heap.size W0 W ∧ W.rangeAt p 0 X ∧ W.rangeAt q 0 Y) (hb : Below W.heap.size W W') : Below W0.heap.size W0 W' ∧ W'.rangeAt p 0 X ∧ W'.rangeAt q 0 Y :=
  ⟨below_two h.1 hb, fun j v hj => Go.Proofs.Ytlcjkmgeaiclbaa.later hb (h.2.1 j v hj), fun j v hj => Go.Proofs.Ytlcjkmgeaiclbaa.later hb (h.2.2 j v hj)⟩
theorem kept_size {W0 W : World} {p q : Nat} {X Y : List Value} (h : Below W0.heap.size W0 W ∧ W.rangeAt p 0 X ∧ W.rangeAt q 0 Y) : W0.heap.size ≤ W.heap.size := h.1.size
theorem range_set {W : World} {p o g i : Nat} {X : List Value} {v : Value} (h : W.rangeAt p o X) (hne : p ≠ g) : (W.setCell ⟨g, i, none⟩ v).rangeAt p o X := fun j u hj => by
  rw [World.cell?_setCell_far _ _ _ _ (by simpa using fun h' => hne h'.symm)]; exact h j u hj
theorem kept_set {W0 W : World} {p q g i : Nat} {X Y : List Value} {v : Value} (h : Below W0.heap.size W0 W ∧ W.rangeAt p 0 X ∧ W.rangeAt q 0 Y) (hg : W0.heap.size ≤ g) (hp : p < W0.heap.size) (hq : q < W0.heap.size) :
    Below W0.heap.size W0 (W.setCell ⟨g, i, none⟩ v) ∧ (W.setCell ⟨g, i, none⟩ v).rangeAt p 0 X ∧ (W.setCell ⟨g, i, none⟩ v).rangeAt q 0 Y :=
  ⟨h.1.setCell hg _, range_set h.2.1 (by omega), range_set h.2.2 (by omega)⟩
end Go.Proofs.Ytlcjkmgeaiclbaa
