/- Own: four calls and four new variables, in whatever order (no statement is proved here). -/
import Derived.Test.YtejhnpgolpjleaaDoorRound
import Derived.Test.YtejhnpgolpjleaaDoorInv
namespace Go.Proofs.YtejhnpgolpjleaaDoor
open Go.ChangeShapes Go.WideShapes Go.ChangeAt Go.RowKit

def SP (B : Nat) (Z : List Value) (w : World) (m : Bool) (v : Value) : Prop := m = true → ∃ p, v = .pointer (some ⟨p, 0, none⟩) ∧ B ≤ p ∧ w.heap[p]? = some (.cells Z.toArray 22 (0, 0))
def NE (m m' : Bool) (v v' : Value) : Prop := m = true → m' = true → v ≠ v'
theorem SP.later {B : Nat} {Z : List Value} {w w' : World} {m : Bool} {v : Value} (h : SP B Z w m v) (hb : Below w.heap.size w w') : SP B Z w' m v := fun hm => by
  obtain ⟨p, e, h1, h2⟩ := h hm
  exact ⟨p, e, h1, (hb.block p (Array.getElem?_eq_some_iff.1 h2).1).trans h2⟩
theorem SP.new {B : Nat} (Z : List Value) (w : World) (hB : B ≤ w.heap.size) : SP B Z (w.alloc (.cells Z.toArray 22)) true (.pointer (some ⟨w.heap.size, 0, none⟩)) := fun _ => ⟨_, rfl, hB, heap_alloc_new _ _⟩
theorem SP.ne {B : Nat} {Z : List Value} {w : World} {m : Bool} {v : Value} (h : SP B Z w m v) (m' : Bool) : NE m' m (.pointer (some ⟨w.heap.size, 0, none⟩)) v ∧ NE m m' v (.pointer (some ⟨w.heap.size, 0, none⟩)) := by
  have key : m = true → v ≠ .pointer (some ⟨w.heap.size, 0, none⟩) := fun hm e => by
    obtain ⟨p, e', _, h2⟩ := h hm
    have := (Array.getElem?_eq_some_iff.1 h2).1
    rw [e'] at e
    injection e with e
    injection e with e
    injection e with e
    omega
  exact ⟨fun _ hm e => key hm e.symm, fun hm _ e => key hm e⟩
/-- Which of the calls have answered, which variables are there. -/
def QS (B : Nat) (Z : List Value) (R0 R1 R2 R3 : Value) (w : World) (b0 b1 b2 b3 m0 m1 m2 m3 : Bool) (v0 v1 v2 v3 r0 r1 r2 r3 : Value) : Prop :=
  ((b1 = true → b0 = true) ∧ (b2 = true → b1 = true) ∧ (b3 = true → b2 = true)) ∧ ((b0 = true → r0 = R0) ∧ (b1 = true → r1 = R1) ∧ (b2 = true → r2 = R2) ∧ (b3 = true → r3 = R3)) ∧
  (SP B Z w m0 v0 ∧ SP B Z w m1 v1 ∧ SP B Z w m2 v2 ∧ SP B Z w m3 v3) ∧ (NE m0 m1 v0 v1 ∧ NE m0 m2 v0 v2 ∧ NE m0 m3 v0 v3 ∧ NE m1 m2 v1 v2 ∧ NE m1 m3 v1 v3 ∧ NE m2 m3 v2 v3)
theorem QS.start (B : Nat) (Z : List Value) (R0 R1 R2 R3 : Value) (w : World) (v0 v1 v2 v3 r0 r1 r2 r3 : Value) : QS B Z R0 R1 R2 R3 w false false false false false false false false v0 v1 v2 v3 r0 r1 r2 r3 := by
  have n : ∀ {p : Prop}, false = true → p := fun h => by cases h
  exact ⟨⟨n, n, n⟩, ⟨n, n, n, n⟩, ⟨n, n, n, n⟩, ⟨n, n, n, n, n, n⟩⟩
theorem QS.call0 {B : Nat} {Z : List Value} {R0 R1 R2 R3 : Value} {w : World} {b0 b1 b2 b3 m0 m1 m2 m3 : Bool} {v0 v1 v2 v3 r0 r1 r2 r3 : Value} {w' : World} (h : QS B Z R0 R1 R2 R3 w b0 b1 b2 b3 m0 m1 m2 m3 v0 v1 v2 v3 r0 r1 r2 r3) (hb : Below w.heap.size w w') : QS B Z R0 R1 R2 R3 w' true b1 b2 b3 m0 m1 m2 m3 v0 v1 v2 v3 R0 r1 r2 r3 :=
  ⟨⟨fun _ => rfl, h.1.2.1, h.1.2.2⟩, ⟨fun _ => rfl, h.2.1.2.1, h.2.1.2.2.1, h.2.1.2.2.2⟩, ⟨h.2.2.1.1.later hb, h.2.2.1.2.1.later hb, h.2.2.1.2.2.1.later hb, h.2.2.1.2.2.2.later hb⟩, h.2.2.2⟩
theorem QS.call1 {B : Nat} {Z : List Value} {R0 R1 R2 R3 : Value} {w : World} {b0 b1 b2 b3 m0 m1 m2 m3 : Bool} {v0 v1 v2 v3 r0 r1 r2 r3 : Value} {w' : World} (h : QS B Z R0 R1 R2 R3 w b0 b1 b2 b3 m0 m1 m2 m3 v0 v1 v2 v3 r0 r1 r2 r3) (hb : Below w.heap.size w w') (hp : b0 = true) : QS B Z R0 R1 R2 R3 w' b0 true b2 b3 m0 m1 m2 m3 v0 v1 v2 v3 r0 R1 r2 r3 :=
  ⟨⟨fun _ => hp, fun _ => rfl, h.1.2.2⟩, ⟨h.2.1.1, fun _ => rfl, h.2.1.2.2.1, h.2.1.2.2.2⟩, ⟨h.2.2.1.1.later hb, h.2.2.1.2.1.later hb, h.2.2.1.2.2.1.later hb, h.2.2.1.2.2.2.later hb⟩, h.2.2.2⟩
theorem QS.call2 {B : Nat} {Z : List Value} {R0 R1 R2 R3 : Value} {w : World} {b0 b1 b2 b3 m0 m1 m2 m3 : Bool} {v0 v1 v2 v3 r0 r1 r2 r3 : Value} {w' : World} (h : QS B Z R0 R1 R2 R3 w b0 b1 b2 b3 m0 m1 m2 m3 v0 v1 v2 v3 r0 r1 r2 r3) (hb : Below w.heap.size w w') (hp : b1 = true) : QS B Z R0 R1 R2 R3 w' b0 b1 true b3 m0 m1 m2 m3 v0 v1 v2 v3 r0 r1 R2 r3 :=
  ⟨⟨h.1.1, fun _ => hp, fun _ => rfl⟩, ⟨h.2.1.1, h.2.1.2.1, fun _ => rfl, h.2.1.2.2.2⟩, ⟨h.2.2.1.1.later hb, h.2.2.1.2.1.later hb, h.2.2.1.2.2.1.later hb, h.2.2.1.2.2.2.later hb⟩, h.2.2.2⟩
theorem QS.call3 {B : Nat} {Z : List Value} {R0 R1 R2 R3 : Value} {w : World} {b0 b1 b2 b3 m0 m1 m2 m3 : Bool} {v0 v1 v2 v3 r0 r1 r2 r3 : Value} {w' : World} (h : QS B Z R0 R1 R2 R3 w b0 b1 b2 b3 m0 m1 m2 m3 v0 v1 v2 v3 r0 r1 r2 r3) (hb : Below w.heap.size w w') (hp : b2 = true) : QS B Z R0 R1 R2 R3 w' b0 b1 b2 true m0 m1 m2 m3 v0 v1 v2 v3 r0 r1 r2 R3 :=
  ⟨⟨h.1.1, h.1.2.1, fun _ => hp⟩, ⟨h.2.1.1, h.2.1.2.1, h.2.1.2.2.1, fun _ => rfl⟩, ⟨h.2.2.1.1.later hb, h.2.2.1.2.1.later hb, h.2.2.1.2.2.1.later hb, h.2.2.1.2.2.2.later hb⟩, h.2.2.2⟩
theorem QS.alloc0 {B : Nat} {Z : List Value} {R0 R1 R2 R3 : Value} {w : World} {b0 b1 b2 b3 m0 m1 m2 m3 : Bool} {v0 v1 v2 v3 r0 r1 r2 r3 : Value} (h : QS B Z R0 R1 R2 R3 w b0 b1 b2 b3 m0 m1 m2 m3 v0 v1 v2 v3 r0 r1 r2 r3) (hB : B ≤ w.heap.size) : QS B Z R0 R1 R2 R3 (w.alloc (.cells Z.toArray 22)) b0 b1 b2 b3 true m1 m2 m3 (.pointer (some ⟨w.heap.size, 0, none⟩)) v1 v2 v3 r0 r1 r2 r3 := by
  have hb := below_alloc (Below.refl w.heap.size w) (.cells Z.toArray 22)
  exact ⟨h.1, h.2.1, ⟨SP.new Z w hB, h.2.2.1.2.1.later hb, h.2.2.1.2.2.1.later hb, h.2.2.1.2.2.2.later hb⟩, ⟨(h.2.2.1.2.1.ne true).1, (h.2.2.1.2.2.1.ne true).1, (h.2.2.1.2.2.2.ne true).1, h.2.2.2.2.2.2.1, h.2.2.2.2.2.2.2.1, h.2.2.2.2.2.2.2.2⟩⟩
theorem QS.alloc1 {B : Nat} {Z : List Value} {R0 R1 R2 R3 : Value} {w : World} {b0 b1 b2 b3 m0 m1 m2 m3 : Bool} {v0 v1 v2 v3 r0 r1 r2 r3 : Value} (h : QS B Z R0 R1 R2 R3 w b0 b1 b2 b3 m0 m1 m2 m3 v0 v1 v2 v3 r0 r1 r2 r3) (hB : B ≤ w.heap.size) : QS B Z R0 R1 R2 R3 (w.alloc (.cells Z.toArray 22)) b0 b1 b2 b3 m0 true m2 m3 v0 (.pointer (some ⟨w.heap.size, 0, none⟩)) v2 v3 r0 r1 r2 r3 := by
  have hb := below_alloc (Below.refl w.heap.size w) (.cells Z.toArray 22)
  exact ⟨h.1, h.2.1, ⟨h.2.2.1.1.later hb, SP.new Z w hB, h.2.2.1.2.2.1.later hb, h.2.2.1.2.2.2.later hb⟩, ⟨(h.2.2.1.1.ne true).2, h.2.2.2.2.1, h.2.2.2.2.2.1, (h.2.2.1.2.2.1.ne true).1, (h.2.2.1.2.2.2.ne true).1, h.2.2.2.2.2.2.2.2⟩⟩
theorem QS.alloc2 {B : Nat} {Z : List Value} {R0 R1 R2 R3 : Value} {w : World} {b0 b1 b2 b3 m0 m1 m2 m3 : Bool} {v0 v1 v2 v3 r0 r1 r2 r3 : Value} (h : QS B Z R0 R1 R2 R3 w b0 b1 b2 b3 m0 m1 m2 m3 v0 v1 v2 v3 r0 r1 r2 r3) (hB : B ≤ w.heap.size) : QS B Z R0 R1 R2 R3 (w.alloc (.cells Z.toArray 22)) b0 b1 b2 b3 m0 m1 true m3 v0 v1 (.pointer (some ⟨w.heap.size, 0, none⟩)) v3 r0 r1 r2 r3 := by
  have hb := below_alloc (Below.refl w.heap.size w) (.cells Z.toArray 22)
  exact ⟨h.1, h.2.1, ⟨h.2.2.1.1.later hb, h.2.2.1.2.1.later hb, SP.new Z w hB, h.2.2.1.2.2.2.later hb⟩, ⟨h.2.2.2.1, (h.2.2.1.1.ne true).2, h.2.2.2.2.2.1, (h.2.2.1.2.1.ne true).2, h.2.2.2.2.2.2.2.1, (h.2.2.1.2.2.2.ne true).1⟩⟩
theorem QS.alloc3 {B : Nat} {Z : List Value} {R0 R1 R2 R3 : Value} {w : World} {b0 b1 b2 b3 m0 m1 m2 m3 : Bool} {v0 v1 v2 v3 r0 r1 r2 r3 : Value} (h : QS B Z R0 R1 R2 R3 w b0 b1 b2 b3 m0 m1 m2 m3 v0 v1 v2 v3 r0 r1 r2 r3) (hB : B ≤ w.heap.size) : QS B Z R0 R1 R2 R3 (w.alloc (.cells Z.toArray 22)) b0 b1 b2 b3 m0 m1 m2 true v0 v1 v2 (.pointer (some ⟨w.heap.size, 0, none⟩)) r0 r1 r2 r3 := by
  have hb := below_alloc (Below.refl w.heap.size w) (.cells Z.toArray 22)
  exact ⟨h.1, h.2.1, ⟨h.2.2.1.1.later hb, h.2.2.1.2.1.later hb, h.2.2.1.2.2.1.later hb, SP.new Z w hB⟩, ⟨h.2.2.2.1, h.2.2.2.2.1, (h.2.2.1.1.ne true).2, h.2.2.2.2.2.2.1, (h.2.2.1.2.1.ne true).2, (h.2.2.1.2.2.1.ne true).2⟩⟩
/-- How many are left. -/
def left8 (b0 b1 b2 b3 m0 m1 m2 m3 : Bool) : Nat := (!b0).toNat + (!b1).toNat + (!b2).toNat + (!b3).toNat + (!m0).toNat + (!m1).toNat + (!m2).toNat + (!m3).toNat
theorem left8_zero {b0 b1 b2 b3 m0 m1 m2 m3 : Bool} (h : 0 = left8 b0 b1 b2 b3 m0 m1 m2 m3) : b0 = true ∧ b1 = true ∧ b2 = true ∧ b3 = true ∧ m0 = true ∧ m1 = true ∧ m2 = true ∧ m3 = true := by
  unfold left8 at h
  cases b0 <;> cases b1 <;> cases b2 <;> cases b3 <;> cases m0 <;> cases m1 <;> cases m2 <;> cases m3 <;> simp_all
theorem QS.all {B : Nat} {Z : List Value} {R0 R1 R2 R3 : Value} {w : World} {v0 v1 v2 v3 r0 r1 r2 r3 : Value} (h : QS B Z R0 R1 R2 R3 w true true true true true true true true v0 v1 v2 v3 r0 r1 r2 r3) :
    ∃ p0 p1 p2 p3, v0 = .pointer (some ⟨p0, 0, none⟩) ∧ v1 = .pointer (some ⟨p1, 0, none⟩) ∧ v2 = .pointer (some ⟨p2, 0, none⟩) ∧ v3 = .pointer (some ⟨p3, 0, none⟩) ∧ r0 = R0 ∧ r1 = R1 ∧ r2 = R2 ∧ r3 = R3 ∧
      (B ≤ p0 ∧ B ≤ p1 ∧ B ≤ p2 ∧ B ≤ p3) ∧ (p0 ≠ p1 ∧ p0 ≠ p2 ∧ p0 ≠ p3 ∧ p1 ≠ p2 ∧ p1 ≠ p3 ∧ p2 ≠ p3) ∧
      w.heap[p0]? = some (.cells Z.toArray 22 (0, 0)) ∧ w.heap[p1]? = some (.cells Z.toArray 22 (0, 0)) ∧ w.heap[p2]? = some (.cells Z.toArray 22 (0, 0)) ∧ w.heap[p3]? = some (.cells Z.toArray 22 (0, 0)) := by
  obtain ⟨_, ⟨e0, e1, e2, e3⟩, ⟨s0, s1, s2, s3⟩, n01, n02, n03, n12, n13, n23⟩ := h
  obtain ⟨p0, rfl, l0, g0⟩ := s0 rfl
  obtain ⟨p1, rfl, l1, g1⟩ := s1 rfl
  obtain ⟨p2, rfl, l2, g2⟩ := s2 rfl
  obtain ⟨p3, rfl, l3, g3⟩ := s3 rfl
  have ne : ∀ {p q : Nat}, NE true true (.pointer (some ⟨p, 0, none⟩)) (.pointer (some ⟨q, 0, none⟩)) → p ≠ q := fun h e => h rfl rfl (by rw [e])
  exact ⟨p0, p1, p2, p3, rfl, rfl, rfl, rfl, e0 rfl, e1 rfl, e2 rfl, e3 rfl, ⟨l0, l1, l2, l3⟩, ⟨ne n01, ne n02, ne n03, ne n12, ne n13, ne n23⟩, g0, g1, g2, g3⟩
/-- Four arrays stored into four variables. -/
theorem four_rows (w : World) (p0 p1 p2 p3 : Nat) (Z : Array Value) (A0 A1 A2 A3 : Array Value) (t : TypeId) (n01 : p0 ≠ p1) (n02 : p0 ≠ p2) (n03 : p0 ≠ p3) (n12 : p1 ≠ p2) (n13 : p1 ≠ p3) (n23 : p2 ≠ p3)
    (g0 : w.heap[p0]? = some (.cells Z t (0, 0))) (g1 : w.heap[p1]? = some (.cells Z t (0, 0))) (g2 : w.heap[p2]? = some (.cells Z t (0, 0))) (g3 : w.heap[p3]? = some (.cells Z t (0, 0))) :
    (w.setRow p0 A0).heap[p1]? = some (.cells Z t (0, 0)) ∧ ((w.setRow p0 A0).setRow p1 A1).heap[p2]? = some (.cells Z t (0, 0)) ∧ (((w.setRow p0 A0).setRow p1 A1).setRow p2 A2).heap[p3]? = some (.cells Z t (0, 0)) ∧
    ((((w.setRow p0 A0).setRow p1 A1).setRow p2 A2).setRow p3 A3).heap[p0]? = some (.cells A0 t (0, 0)) ∧ ((((w.setRow p0 A0).setRow p1 A1).setRow p2 A2).setRow p3 A3).heap[p1]? = some (.cells A1 t (0, 0)) ∧ ((((w.setRow p0 A0).setRow p1 A1).setRow p2 A2).setRow p3 A3).heap[p2]? = some (.cells A2 t (0, 0)) ∧ ((((w.setRow p0 A0).setRow p1 A1).setRow p2 A2).setRow p3 A3).heap[p3]? = some (.cells A3 t (0, 0)) := by
  have h1 : (w.setRow p0 A0).heap[p1]? = some (.cells Z t (0, 0)) := (setRow_other _ _ _ _ n01.symm).trans g1
  have h2 : ((w.setRow p0 A0).setRow p1 A1).heap[p2]? = some (.cells Z t (0, 0)) := (setRow_other _ _ _ _ n12.symm).trans ((setRow_other _ _ _ _ n02.symm).trans g2)
  have h3 : (((w.setRow p0 A0).setRow p1 A1).setRow p2 A2).heap[p3]? = some (.cells Z t (0, 0)) := (setRow_other _ _ _ _ n23.symm).trans ((setRow_other _ _ _ _ n13.symm).trans ((setRow_other _ _ _ _ n03.symm).trans g3))
  refine ⟨h1, h2, h3, ?_, ?_, ?_, setRow_heap _ _ _ _ _ _ h3⟩
  · exact (setRow_other _ _ _ _ n03).trans ((setRow_other _ _ _ _ n02).trans ((setRow_other _ _ _ _ n01).trans (setRow_heap _ _ _ _ _ _ g0)))
  · exact (setRow_other _ _ _ _ n13).trans ((setRow_other _ _ _ _ n12).trans (setRow_heap _ _ _ _ _ _ h1))
  · exact (setRow_other _ _ _ _ n23).trans (setRow_heap _ _ _ _ _ _ h2)
end Go.Proofs.YtejhnpgolpjleaaDoor
