/- Own: how arguments are laid as an abstract state (no statement is proved here). -/
import Derived.Test.YtdfbcdgneboilaaDoorO0
import Derived.Test.YtdfbcdgneboilaaDoorRows
import Derived.WalkKit
import Derived.ProofKit
import Derived.OpenShut
import Derived.Below
import Derived.ChangeOld
import Derived.Lib.SmallJoins
namespace Go.Proofs.YtdfbcdgneboilaaDoor
open Go.ChangeShapes Go.WideShapes Go.ChangeAt Go.RowKit Go.Joins Ab
theorem own : ownKnob Tryd.prog.godebug = none := by kernel_rfl
theorem laidOut : laidOutB Tryd.prog = true := by kernel_rfl
/-- A slice lies in the world, and holds these numbers. -/
def SliceAt (W : World) (v : Value) (k : IntKind) (bs : List Int) : Prop :=
  ∃ a cap, v = .slice a bs.length cap ∧ bs.length ≤ cap ∧ (bs = [] ∨ ∃ b off : Nat, a = some ⟨b, off, none⟩ ∧ ∀ i x, bs[i]? = some x → W.cell? ⟨b, off + i, none⟩ = some (.int k x))
def locOf : Value → Ab.Loc
  | .slice (some ⟨b, off, _⟩) (_ + 1) _ => ⟨b, off, 1⟩
  | _ => ⟨0, 0, 0⟩
def rhoOf (ls : List Ab.Loc) : Rho := fun k => ls[k]?
theorem SliceAt.loc {W : World} {v : Value} {k : IntKind} {bs : List Int} (h : SliceAt W v k bs) : bs = [] ∨ ∃ b off cap, v = .slice (some ⟨b, off, none⟩) bs.length cap ∧ bs.length ≤ cap ∧ bs ≠ [] ∧ locOf v = ⟨b, off, 1⟩ ∧ ∀ i x, bs[i]? = some x → W.cell? ⟨b, off + i, none⟩ = some (.int k x) := by
  obtain ⟨a, cap, rfl, hc, h⟩ := h
  rcases h with h | ⟨b, off, rfl, h⟩
  · exact .inl h
  · cases bs with
    | nil => exact .inl rfl
    | cons x l => exact .inr ⟨b, off, cap, rfl, hc, by simp, rfl, h⟩
theorem SliceAt.rel {W : World} {v : Value} {k : IntKind} {bs : List Int} (h : SliceAt W v k bs) {ρ : Rho} {j : Nat} (hj : ρ j = some (locOf v)) : Rel ρ (.sv j 0 bs.length) v := by
  rcases h.loc with hb | ⟨b, off, cap, rfl, hc, _, hl, _⟩
  · obtain ⟨a, cap, rfl, _, _⟩ := h
    subst hb
    exact .svn
  · rw [hl] at hj
    exact .sv hj hc
theorem SliceAt.view {W : World} {v : Value} {k : IntKind} {bs : List Int} (h : SliceAt W v k bs) {ρ : Rho} {j : Nat} (hj : ρ j = some (locOf v)) : BRel ρ W j (.view (bs.map (Value.int k))) := by
  rcases h.loc with hb | ⟨b, off, cap, rfl, _, hne, hl, hcell⟩
  · obtain ⟨a, cap, rfl, _, _⟩ := h
    subst hb
    refine ⟨_, hj, .inl ⟨?_, rfl⟩⟩
    unfold locOf
    split
    · rename_i e; cases e
    · rfl
  · rw [hl] at hj
    refine ⟨_, hj, .inr ⟨by simp, by simpa using hne, fun i v hv => ?_⟩⟩
    rw [List.getElem?_map] at hv
    cases hi : bs[i]? with
    | none => rw [hi] at hv; cases hv
    | some x => rw [hi] at hv; cases hv; exact hcell i x hi
theorem relL_nil {ρ : Rho} : RelL ρ [] [] := ⟨rfl, fun i x v h => by simp at h⟩
theorem relL_cons {ρ : Rho} {x : AV} {v : Value} {l : List AV} {vs : List Value} (h : Rel ρ x v) (r : RelL ρ l vs) : RelL ρ (x :: l) (v :: vs) := by
  refine ⟨by simp [r.1], fun i y u h1 h2 => ?_⟩
  cases i with
  | zero => simp at h1 h2; subst h1 h2; exact h
  | succ i => exact r.2 i y u (by simpa using h1) (by simpa using h2)
def BAll (ρ : Rho) (W : World) : List (Nat × Blk) → Prop
  | [] => True
  | (k, b) :: M => BRel ρ W k b ∧ BAll ρ W M
theorem BAll.mem {ρ : Rho} {W : World} : ∀ {M : List (Nat × Blk)}, BAll ρ W M → ∀ k b, (k, b) ∈ M → BRel ρ W k b
  | (_, _) :: _, h, k, b, hm => by
    rcases List.mem_cons.1 hm with e | hm
    · cases e; exact h.1
    · exact BAll.mem h.2 k b hm
theorem wr_of {M : List (Nat × Blk)} (h : (M.all fun x => !x.2.wr) = true) : ∀ k b, (k, b) ∈ M → b.wr = false := fun k b hm => by
  have := List.all_eq_true.1 h (k, b) hm
  simpa using this
/-- Listed variables lie where they lie. -/
theorem globs {G : List (Nat × Nat)} {ls : List Ab.Loc} (h : (G.all fun x => match ls[x.2]? with | some l => Nat.beq l.b x.1 && Nat.beq l.d 0 | none => false) = true) : ∀ g k, (fun g => G.lookup g) g = some k → ∃ l, rhoOf ls k = some l ∧ l.b = g ∧ l.d = 0 := fun g k hg => by
  have := List.all_eq_true.1 h (g, k) (lookup_mem' hg)
  simp only at this
  unfold rhoOf
  cases hl : ls[k]? with
  | none => rw [hl] at this; cases this
  | some l =>
    rw [hl] at this
    rw [Bool.and_eq_true] at this
    exact ⟨l, rfl, by simpa using this.1, by simpa using this.2⟩
theorem glob_view {W : World} {ρ : Rho} {j g : Nat} {cs : List Value} (hj : ρ j = some ⟨g, 0, 1⟩) (h : cs ≠ [] ∧ ∀ i v, cs[i]? = some v → W.cell? ⟨g, i, none⟩ = some v) : BRel ρ W j (.view cs) :=
  ⟨_, hj, .inr ⟨by simp, h.1, fun i v hv => by simpa using h.2 i v hv⟩⟩
end Go.Proofs.YtdfbcdgneboilaaDoor
