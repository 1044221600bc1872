/- Own: an abstract heap beside the world; a region, in whatever order, does what its operations do one after the other (no statement is proved here). -/
import Derived.Orders
import Derived.Below
import Derived.Scope
namespace Go.Proofs.YtdfbcdgneboilaaDoor.Ab
open Go.RowKit

section
/-- Where an abstract block lies: its block, its first cell, its room (0: it does not lie). -/
structure Loc where
  b : Nat
  d : Nat
  c : Nat
abbrev Rho := Nat → Option Loc
/-- Abstract values: exact ones; pointers and slices into abstract blocks; rows that are appended to; closures; composed ones; whatever. -/
inductive AV where
  | ex (v : Value)
  | p (k off : Nat)
  | s (k off len cap : Nat)
  | sv (k off len : Nat)
  | o (k off len : Nat)
  | f (fn : FuncId) (caps : List Nat)
  | agg (l : List AV)
  | tup (l : List AV)
  | j
inductive Blk where
  | own (cs : List Value)
  | mix (cs : List AV)
  | view (cs : List Value)
  | mixv (cs : List AV)
  | row (cs : List Value)
  | rowA (s : Nat) (cs : List AV)
  | rowX (s : Nat) (cs : List Value)
  | old (cs : List Value)
  | rows (ls : List (List Value))
inductive Rel (ρ : Rho) : AV → Value → Prop where
  | ex (v : Value) : Rel ρ (.ex v) v
  | p {k off : Nat} {l : Loc} : ρ k = some l → Rel ρ (.p k off) (.pointer (some ⟨l.b, l.d + off, none⟩))
  | s {k off n c : Nat} {l : Loc} : ρ k = some l → Rel ρ (.s k off n c) (.slice (some ⟨l.b, l.d + off, none⟩) n c)
  | sn {k off : Nat} {a : Option Addr} : Rel ρ (.s k off 0 0) (.slice a 0 0)
  | sv {k off n c : Nat} {l : Loc} : ρ k = some l → n ≤ c → Rel ρ (.sv k off n) (.slice (some ⟨l.b, l.d + off, none⟩) n c)
  | svn {k off c : Nat} {a : Option Addr} : Rel ρ (.sv k off 0) (.slice a 0 c)
  | o {k off n : Nat} {l : Loc} : ρ k = some l → l.d = 0 → off + n ≤ l.c → Rel ρ (.o k off n) (.slice (some ⟨l.b, off, none⟩) n (l.c - off))
  | on {k off : Nat} {l : Loc} {a : Option Addr} : ρ k = some l → l.c - off = 0 → Rel ρ (.o k off 0) (.slice a 0 0)
  | f {fn : FuncId} {caps : List Nat} {vs : List Value} : caps.length = vs.length → (∀ (i k : Nat) (v : Value), caps[i]? = some k → vs[i]? = some v → ∃ l, ρ k = some l ∧ v = .pointer (some ⟨l.b, l.d, none⟩)) → Rel ρ (.f fn caps) (.func (.func fn) #[] vs.toArray)
  | agg {l : List AV} {vs : List Value} : l.length = vs.length → (∀ (i : Nat) (x : AV) (v : Value), l[i]? = some x → vs[i]? = some v → Rel ρ x v) → Rel ρ (.agg l) (.agg vs.toArray)
  | tup {l : List AV} {vs : List Value} : l.length = vs.length → (∀ (i : Nat) (x : AV) (v : Value), l[i]? = some x → vs[i]? = some v → Rel ρ x v) → Rel ρ (.tup l) (.tuple vs.toArray)
  | j (v : Value) : Rel ρ .j v
def RelL (ρ : Rho) (l : List AV) (vs : List Value) : Prop := l.length = vs.length ∧ ∀ (i : Nat) (x : AV) (v : Value), l[i]? = some x → vs[i]? = some v → Rel ρ x v
def Rho.le (ρ ρ' : Rho) : Prop := ∀ k l, ρ k = some l → ρ' k = some l
theorem Rel.mono {ρ ρ' : Rho} (h : ρ.le ρ') {x : AV} {v : Value} (r : Rel ρ x v) : Rel ρ' x v := by
  induction r with
  | ex v => exact .ex v
  | p e => exact .p (h _ _ e)
  | s e => exact .s (h _ _ e)
  | sn => exact .sn
  | sv e c => exact .sv (h _ _ e) c
  | svn => exact .svn
  | o e c d => exact .o (h _ _ e) c d
  | on e c => exact .on (h _ _ e) c
  | f e c => exact .f e fun i k v h1 h2 => let ⟨l, h3, h4⟩ := c i k v h1 h2; ⟨l, h _ _ h3, h4⟩
  | agg e _ ih => exact .agg e ih
  | tup e _ ih => exact .tup e ih
  | j v => exact .j v
theorem RelL.mono {ρ ρ' : Rho} (h : ρ.le ρ') {l : List AV} {vs : List Value} (r : RelL ρ l vs) : RelL ρ' l vs :=
  ⟨r.1, fun i x v h1 h2 => (r.2 i x v h1 h2).mono h⟩
theorem Rho.le_refl (ρ : Rho) : ρ.le ρ := fun _ _ h => h
theorem Rho.le_trans {a b c : Rho} (h : a.le b) (h' : b.le c) : a.le c := fun k l e => h' k l (h k l e)

/-- A block of the world holds these cells, and none of them is frozen. -/
def Has (w : World) (b : Nat) (cs : List Value) : Prop := ∃ t fr, w.heap[b]? = some (.cells cs.toArray t fr) ∧ (fr.1 = fr.2 ∨ cs.length ≤ fr.1)
theorem Has.lt {w : World} {b : Nat} {cs : List Value} (h : Has w b cs) : b < w.heap.size := by
  obtain ⟨_, _, h, _⟩ := h; exact (Array.getElem?_eq_some_iff.1 h).1
theorem Has.of_eq {w w' : World} {b : Nat} {cs : List Value} (h : Has w b cs) (e : w'.heap[b]? = w.heap[b]?) : Has w' b cs := by
  obtain ⟨t, fr, h1, h2⟩ := h; exact ⟨t, fr, e.trans h1, h2⟩
theorem Has.cell {w : World} {b : Nat} {cs : List Value} (h : Has w b cs) (i : Nat) : w.cell? ⟨b, i, none⟩ = cs[i]? := by
  obtain ⟨t, fr, h1, h2⟩ := h
  simp [World.cell?, h1]
/-- What an abstract block says of the world. -/
def BRel (ρ : Rho) (w : World) (k : Nat) : Blk → Prop
  | .own cs => ∃ l, ρ k = some l ∧ l.d = 0 ∧ l.c ≠ 0 ∧ Has w l.b cs
  | .mix cs => ∃ l vs, ρ k = some l ∧ l.d = 0 ∧ l.c ≠ 0 ∧ Has w l.b vs ∧ RelL ρ cs vs
  | .view cs => ∃ l, ρ k = some l ∧ ((l.c = 0 ∧ cs = []) ∨ (l.c ≠ 0 ∧ cs ≠ [] ∧ ∀ i v, cs[i]? = some v → w.cell? ⟨l.b, l.d + i, none⟩ = some v))
  | .mixv cs => ∃ l vs, ρ k = some l ∧ l.c ≠ 0 ∧ cs ≠ [] ∧ (∀ i v, vs[i]? = some v → w.cell? ⟨l.b, l.d + i, none⟩ = some v) ∧ RelL ρ cs vs
  | .row cs => ∃ l, ρ k = some l ∧ l.d = 0 ∧ ((l.c = 0 ∧ cs = []) ∨ (l.c ≠ 0 ∧ ∃ rest, Has w l.b (cs ++ rest) ∧ (cs ++ rest).length = l.c))
  | .rowA s cs => ∃ l vs, ρ k = some l ∧ l.d = 0 ∧ RelL ρ cs vs ∧ ((l.c = 0 ∧ vs = []) ∨ (l.c ≠ 0 ∧ ∃ rest, Has w l.b (vs ++ rest) ∧ (vs ++ rest).length = l.c * s))
  | .rowX s cs => ∃ l, ρ k = some l ∧ l.d = 0 ∧ ((l.c = 0 ∧ cs = []) ∨ (l.c ≠ 0 ∧ ∃ rest, Has w l.b (cs ++ rest) ∧ (cs ++ rest).length = l.c * s))
  | .old _ => ∃ l, ρ k = some l ∧ l.c = 0
  | .rows _ => ∃ l, ρ k = some l ∧ l.c = 0
def Blk.wr : Blk → Bool
  | .view _ => false
  | .mixv _ => false
  | .old _ => false
  | .rows _ => false
  | _ => true
theorem BRel.loc {ρ : Rho} {w : World} {k : Nat} {b : Blk} (h : BRel ρ w k b) : ∃ l, ρ k = some l := by
  cases b with
  | own cs => obtain ⟨l, h, _⟩ := h; exact ⟨l, h⟩
  | mix cs => obtain ⟨l, _, h, _⟩ := h; exact ⟨l, h⟩
  | view cs => obtain ⟨l, h, _⟩ := h; exact ⟨l, h⟩
  | mixv cs => obtain ⟨l, _, h, _⟩ := h; exact ⟨l, h⟩
  | row cs => obtain ⟨l, h, _⟩ := h; exact ⟨l, h⟩
  | rowA s cs => obtain ⟨l, _, h, _⟩ := h; exact ⟨l, h⟩
  | rowX s cs => obtain ⟨l, h, _⟩ := h; exact ⟨l, h⟩
  | old cs => obtain ⟨l, h, _⟩ := h; exact ⟨l, h⟩
  | rows ls => obtain ⟨l, h, _⟩ := h; exact ⟨l, h⟩
theorem BRel.lt {ρ : Rho} {w : World} {k : Nat} {b : Blk} {l : Loc} (h : BRel ρ w k b) (hl : ρ k = some l) (hc : l.c ≠ 0) : l.b < w.heap.size := by
  cases b with
  | own cs => obtain ⟨l', h1, h2, h3, h4⟩ := h; rw [hl] at h1; cases h1; exact h4.lt
  | mix cs => obtain ⟨l', vs, h1, h2, h3, h4, h5⟩ := h; rw [hl] at h1; cases h1; exact h4.lt
  | view cs =>
    obtain ⟨l', h1, h2⟩ := h; rw [hl] at h1; cases h1
    rcases h2 with h2 | ⟨_, h3, h4⟩
    · exact absurd h2.1 hc
    · cases cs with
      | nil => exact absurd rfl h3
      | cons v t => exact World.block_lt_of_cell? _ _ (h4 0 v rfl)
  | mixv cs =>
    obtain ⟨l', vs, h1, h2, h3, h4, h5⟩ := h; rw [hl] at h1; cases h1
    cases vs with
    | nil => exact absurd (List.length_eq_zero_iff.1 (by simpa using h5.1)) h3
    | cons v t => exact World.block_lt_of_cell? _ _ (h4 0 v rfl)
  | row cs =>
    obtain ⟨l', h1, h2, h3⟩ := h; rw [hl] at h1; cases h1
    rcases h3 with h3 | ⟨h3, rest, h4, h5⟩
    · exact absurd h3.1 hc
    · exact h4.lt
  | rowX s cs =>
    obtain ⟨l', h1, h2, h3⟩ := h; rw [hl] at h1; cases h1
    rcases h3 with h3 | ⟨h3, rest, h4, h5⟩
    · exact absurd h3.1 hc
    · exact h4.lt
  | rowA s cs =>
    obtain ⟨l', vs, h1, h2, _, h3⟩ := h; rw [hl] at h1; cases h1
    rcases h3 with h3 | ⟨h3, rest, h4, h5⟩
    · exact absurd h3.1 hc
    · exact h4.lt
  | old cs => obtain ⟨l', h1, h2⟩ := h; rw [hl] at h1; cases h1; exact absurd h2 hc
  | rows ls => obtain ⟨l', h1, h2⟩ := h; rw [hl] at h1; cases h1; exact absurd h2 hc
/-- A block that has not turned says what it said. -/
theorem BRel.keep {ρ ρ' : Rho} {w w' : World} {k : Nat} {b : Blk} (h : BRel ρ w k b) (hρ : ρ.le ρ')
    (hw : ∀ l, ρ k = some l → l.c ≠ 0 → l.b < w.heap.size → w'.heap[l.b]? = w.heap[l.b]?) : BRel ρ' w' k b := by
  have hlt := fun l => BRel.lt (l := l) h
  cases b with
  | own cs => obtain ⟨l, h1, h2, h3, h4⟩ := h; exact ⟨l, hρ _ _ h1, h2, h3, h4.of_eq (hw l h1 h3 (hlt l h1 h3))⟩
  | mix cs => obtain ⟨l, vs, h1, h2, h3, h4, h5⟩ := h; exact ⟨l, vs, hρ _ _ h1, h2, h3, h4.of_eq (hw l h1 h3 (hlt l h1 h3)), h5.mono hρ⟩
  | view cs =>
    obtain ⟨l, h1, h2⟩ := h
    refine ⟨l, hρ _ _ h1, h2.imp id fun ⟨h3, h4, h5⟩ => ⟨h3, h4, fun i v e => ?_⟩⟩
    rw [World.cell?_of_block (w := w) (hw l h1 h3 (hlt l h1 h3))]
    exact h5 i v e
  | mixv cs =>
    obtain ⟨l, vs, h1, h2, h3, h4, h5⟩ := h
    refine ⟨l, vs, hρ _ _ h1, h2, h3, fun i v e => ?_, h5.mono hρ⟩
    rw [World.cell?_of_block (w := w) (hw l h1 h2 (hlt l h1 h2))]
    exact h4 i v e
  | row cs =>
    obtain ⟨l, h1, h2, h3⟩ := h
    exact ⟨l, hρ _ _ h1, h2, h3.imp id fun ⟨h3, rest, h4, h5⟩ => ⟨h3, rest, h4.of_eq (hw l h1 h3 (hlt l h1 h3)), h5⟩⟩
  | rowX s cs =>
    obtain ⟨l, h1, h2, h3⟩ := h
    exact ⟨l, hρ _ _ h1, h2, h3.imp id fun ⟨h3, rest, h4, h5⟩ => ⟨h3, rest, h4.of_eq (hw l h1 h3 (hlt l h1 h3)), h5⟩⟩
  | rowA s cs =>
    obtain ⟨l, vs, h1, h2, h0, h3⟩ := h
    exact ⟨l, vs, hρ _ _ h1, h2, h0.mono hρ, h3.imp id fun ⟨h3, rest, h4, h5⟩ => ⟨h3, rest, h4.of_eq (hw l h1 h3 (hlt l h1 h3)), h5⟩⟩
  | old cs => obtain ⟨l, h1, h2⟩ := h; exact ⟨l, hρ _ _ h1, h2⟩
  | rows ls => obtain ⟨l, h1, h2⟩ := h; exact ⟨l, hρ _ _ h1, h2⟩

/-- What an operation makes: its value; blocks that are new or written; the keys of the new ones; of those written or gone; gone; looked at. -/
structure Res where
  val : AV
  upd : List (Nat × Blk) := []
  nks : List Nat := []
  wks : List Nat := []
  kill : List Nat := []
  rd : List Nat := []
/-- Nothing turns but the blocks of these keys. -/
structure Fr (ρ : Rho) (ks : List Nat) (w w' : World) : Prop where
  os : w'.os = w.os
  tape : w'.tape = w.tape
  output : w'.output = w.output
  size : w.heap.size ≤ w'.heap.size
  block : ∀ b, b < w.heap.size → (∀ k ∈ ks, ∀ l, ρ k = some l → l.c ≠ 0 → l.b ≠ b) → w'.heap[b]? = w.heap[b]?
theorem Fr.refl (ρ : Rho) (ks : List Nat) (w : World) : Fr ρ ks w w := ⟨rfl, rfl, rfl, Nat.le_refl _, fun _ _ _ => rfl⟩
structure StepOf (ρ : Rho) (w : World) (r : Res) (v : Value) (ρ' : Rho) (w' : World) : Prop where
  ext : ρ.le ρ'
  same : ∀ k, k ∉ r.nks → ρ' k = ρ k
  val : Rel ρ' r.val v
  upd : ∀ k b, (k, b) ∈ r.upd → BRel ρ' w' k b
  fr : Fr ρ r.wks w w'
  new : ∀ k ∈ r.nks, ∀ l, ρ' k = some l → l.c ≠ 0 → l.b < w'.heap.size ∧ (w.heap.size ≤ l.b ∨ ∃ k' ∈ r.kill, ∃ l', ρ k' = some l' ∧ l'.c ≠ 0 ∧ l'.b = l.b)
  dist : ∀ k ∈ r.nks, ∀ k' ∈ r.nks, k ≠ k' → ∀ l l', ρ' k = some l → ρ' k' = some l' → l.c ≠ 0 → l'.c ≠ 0 → l.b ≠ l'.b
/-- The blocks of X may turn, nothing else that stood. -/
structure FrX (X : Nat → Prop) (w w' : World) : Prop where
  os : w'.os = w.os
  tape : w'.tape = w.tape
  output : w'.output = w.output
  size : w.heap.size ≤ w'.heap.size
  block : ∀ b, b < w.heap.size → ¬ X b → w'.heap[b]? = w.heap[b]?
/-- What lay there when the call began, in a block that it does not write. -/
def OldC (W : World) (X : Nat → Prop) (l : Loc) (cs : List Value) : Prop := cs = [] ∨ (l.b < W.heap.size ∧ ¬ X l.b ∧ ∀ i v, cs[i]? = some v → W.cell? ⟨l.b, l.d + i, none⟩ = some v)
/-- A row of rows that lay there when the call began, and all that they hold. -/
def RowsC (W : World) (X : Nat → Prop) (l : Loc) (ls : List (List Value)) : Prop := ls = [] ∨ (l.b < W.heap.size ∧ ¬ X l.b ∧ ∀ i cs, ls[i]? = some cs → ∃ a c, W.cell? ⟨l.b, l.d + i, none⟩ = some (.slice a cs.length c) ∧ cs.length ≤ c ∧ (cs = [] ∨ ∃ b off, a = some ⟨b, off, none⟩ ∧ OldC W X ⟨b, off, 0⟩ cs))
def OldB (W : World) (X : Nat → Prop) (ρ : Rho) (k : Nat) : Blk → Prop
  | .old cs => ∃ l, ρ k = some l ∧ OldC W X l cs
  | .rows ls => ∃ l, ρ k = some l ∧ RowsC W X l ls
  | _ => True
theorem OldB.mono {W : World} {X : Nat → Prop} {ρ ρ' : Rho} {k : Nat} {b : Blk} (hρ : ∀ l, ρ k = some l → ρ' k = some l) (h : OldB W X ρ k b) : OldB W X ρ' k b := by
  cases b with
  | old cs => obtain ⟨l, h1, h2⟩ := h; exact ⟨l, hρ _ h1, h2⟩
  | rows ls => obtain ⟨l, h1, h2⟩ := h; exact ⟨l, hρ _ h1, h2⟩
  | _ => trivial
theorem OldC.now {W w : World} {X Y : Nat → Prop} (hf : FrX X W w) (hY : ∀ b, b < W.heap.size → ¬ X b → ¬ Y b) {l : Loc} {cs : List Value} (h : OldC W X l cs) : OldC w Y l cs := by
  rcases h with h | ⟨h1, h2, h3⟩
  · exact .inl h
  · refine .inr ⟨Nat.lt_of_lt_of_le h1 hf.size, hY _ h1 h2, fun i v e => ?_⟩
    rw [World.cell?_of_block (w := W) (hf.block _ h1 h2)]
    exact h3 i v e
theorem OldB.now {W w : World} {X Y : Nat → Prop} (hf : FrX X W w) (hY : ∀ b, b < W.heap.size → ¬ X b → ¬ Y b) {ρ : Rho} {k : Nat} {b : Blk} (h : OldB W X ρ k b) : OldB w Y ρ k b := by
  cases b with
  | old cs => obtain ⟨l, h1, h2⟩ := h; exact ⟨l, h1, h2.now hf hY⟩
  | rows ls =>
    obtain ⟨l, h1, h2⟩ := h
    refine ⟨l, h1, ?_⟩
    rcases h2 with h2 | ⟨h2, h3, h4⟩
    · exact .inl h2
    · refine .inr ⟨Nat.lt_of_lt_of_le h2 hf.size, hY _ h2 h3, fun i cs e => ?_⟩
      obtain ⟨a, c, g1, g2, g3⟩ := h4 i cs e
      refine ⟨a, c, ?_, g2, g3.imp id fun ⟨b, off, q1, q2⟩ => ⟨b, off, q1, q2.now hf hY⟩⟩
      rw [World.cell?_of_block (w := W) (hf.block _ h2 h3)]
      exact g1
  | _ => trivial
/-- The blocks of these keys. -/
def wrote (ρ : Rho) (ks : List Nat) (b : Nat) : Prop := ∃ k ∈ ks, ∃ l, ρ k = some l ∧ l.c ≠ 0 ∧ l.b = b
/-- An operation does what is said, seen from what it looks at alone. -/
def OpOK0 (P : Program) (G : Nat → Option Nat) (o : Oper) (ev : Operand → AV) (m : Nat → Option Blk) (r : Res) : Prop :=
  ∀ (ρ : Rho) (a : Act) (w : World) (Q : Exit → Act → World → Prop) (K : Act → World → Prop),
    (∀ x ∈ o.op.operands, Rel ρ (ev x) (a.eval x)) →
    (∀ k ∈ r.rd, ∀ b, m k = some b → BRel ρ w k b) →
    (∀ k ∈ r.nks, ρ k = none) →
    (∀ k ∈ r.rd, ∀ k' ∈ r.rd, k ≠ k' → ∀ b b' l l', m k = some b → m k' = some b' → b.wr = true → ρ k = some l → ρ k' = some l' → l.c ≠ 0 → l'.c ≠ 0 → l.b ≠ l'.b) →
    (∀ g k, G g = some k → ∃ l, ρ k = some l ∧ l.b = g ∧ l.d = 0) →
    (∀ k ∈ r.rd, ∀ b, m k = some b → OldB w (wrote ρ r.wks) ρ k b) →
    (∀ v w' ρ', StepOf ρ w r v ρ' w' → K (a.put o.dst v) w') → o.wp P a w K Q

/-- The same, where what lay there when the call began is known, too. -/
def OpOK (P : Program) (G : Nat → Option Nat) (W : World) (X : Nat → Prop) (o : Oper) (ev : Operand → AV) (m : Nat → Option Blk) (r : Res) : Prop :=
  ∀ (ρ : Rho) (a : Act) (w : World) (Q : Exit → Act → World → Prop) (K : Act → World → Prop),
    (∀ x ∈ o.op.operands, Rel ρ (ev x) (a.eval x)) →
    (∀ k ∈ r.rd, ∀ b, m k = some b → BRel ρ w k b) →
    (∀ k ∈ r.nks, ρ k = none) →
    (∀ k ∈ r.rd, ∀ k' ∈ r.rd, k ≠ k' → ∀ b b' l l', m k = some b → m k' = some b' → b.wr = true → ρ k = some l → ρ k' = some l' → l.c ≠ 0 → l'.c ≠ 0 → l.b ≠ l'.b) →
    (∀ g k, G g = some k → ∃ l, ρ k = some l ∧ l.b = g ∧ l.d = 0) →
    (∀ k ∈ r.rd, ∀ b, m k = some b → OldB W X ρ k b) → FrX X W w →
    (∀ k ∈ r.rd, ∀ b l, m k = some b → b.wr = true → ρ k = some l → l.c ≠ 0 → W.heap.size ≤ l.b ∨ X l.b) →
    (∀ k ∈ r.wks, ∀ l, ρ k = some l → l.c ≠ 0 → W.heap.size ≤ l.b ∨ X l.b) →
    (∀ v w' ρ', StepOf ρ w r v ρ' w' → (∀ k b, (k, b) ∈ r.upd → OldB W X ρ' k b) → K (a.put o.dst v) w') → o.wp P a w K Q
def Blk.isOld : Blk → Bool
  | .old _ => true
  | .rows _ => true
  | _ => false
theorem OldB.not {W : World} {X : Nat → Prop} {ρ : Rho} {k : Nat} {b : Blk} (h : b.isOld = false) : OldB W X ρ k b := by
  cases b with
  | old cs => cases h
  | rows ls => cases h
  | _ => trivial
theorem OpOK0.up {P : Program} {G : Nat → Option Nat} {W : World} {X : Nat → Prop} {o : Oper} {ev : Operand → AV} {m : Nat → Option Blk} {r : Res} (h : OpOK0 P G o ev m r) (hu : ∀ k b, (k, b) ∈ r.upd → b.isOld = false) : OpOK P G W X o ev m r := by
  intro ρ a w Q K h1 h2 h3 h4 h5 h6 h7 h8 h9 h10
  refine h ρ a w Q K h1 h2 h3 h4 h5 (fun k hk b hb => (h6 k hk b hb).now h7 fun bl hlt hX ⟨k', hk', l, hl, hc, e⟩ => ?_) fun v w' ρ' hs => h10 v w' ρ' hs fun k b hkb => .not (hu k b hkb)
  subst e
  rcases h9 k' hk' l hl hc with h | h
  · omega
  · exact hX h

/-- What stands behind the updates of those that L lists, up to m. -/
def vG {β : Type} (u : Nat → Option β) (L : Nat → Bool) (x : β) : Nat → β
  | 0 => x
  | m + 1 => if L m then (u m).getD (vG u L x m) else vG u L x m
theorem vG_same {β : Type} {u : Nat → Option β} {L : Nat → Bool} {x : β} {i n : Nat} (hi : i ≤ n) (h : ∀ j, j < n → u j ≠ none → (L j = true ↔ j < i)) :
    vG u L x n = vG u (fun _ => true) x i := by
  have key : ∀ m, m ≤ n → vG u L x m = vG u (fun _ => true) x (min m i) := by
    intro m
    induction m with
    | zero => intro _; simp [vG]
    | succ m ih =>
      intro hm
      have ih := ih (by omega)
      have hu := h m (by omega)
      by_cases hmi : m < i
      · have e : min (m + 1) i = m + 1 := by omega
        have e' : min m i = m := by omega
        rw [e, vG, vG, ih, e']
        cases hum : u m with
        | none => simp
        | some y => rw [(hu (by simp [hum])).2 hmi]
      · have e : min (m + 1) i = i := by omega
        have e' : min m i = i := by omega
        rw [e, vG, ih, e']
        cases hum : u m with
        | none => simp
        | some y =>
          have : L m = false := by
            cases hl : L m with
            | false => rfl
            | true => exact absurd ((hu (by simp [hum])).1 hl) hmi
          simp [this]
  have := key n (Nat.le_refl _)
  rwa [Nat.min_eq_right hi] at this
def addL (L : Nat → Bool) (i : Nat) : Nat → Bool := fun j => if j = i then true else L j
theorem vG_add {β : Type} {u : Nat → Option β} {L : Nat → Bool} {x : β} {i n : Nat} (hi : i < n) (hL : L i = false)
    (h : ∀ j, j < n → j ≠ i → u j ≠ none → u i ≠ none → (L j = true ↔ j < i)) :
    vG u (addL L i) x n = (u i).getD (vG u L x n) := by
  have key : ∀ m, m ≤ n → vG u (addL L i) x m = if i < m then (u i).getD (vG u L x m) else vG u L x m := by
    intro m
    induction m with
    | zero => intro _; simp [vG]
    | succ m ih =>
      intro hm
      have ih := ih (by omega)
      by_cases hmi : m = i
      · subst hmi
        have e1 : vG u (addL L m) x (m + 1) = (u m).getD (vG u (addL L m) x m) := by simp [vG, addL]
        have e2 : vG u L x (m + 1) = vG u L x m := by simp [vG, hL]
        rw [e1, e2, ih]
        simp
      · have e : addL L i m = L m := by simp [addL, hmi]
        rw [vG, e, ih, vG]
        cases hlm : L m with
        | false =>
          simp only [Bool.false_eq_true, if_false]
          by_cases him : i < m
          · rw [if_pos him, if_pos (by omega)]
          · rw [if_neg him, if_neg (by omega)]
        | true =>
          simp only [if_true]
          cases hum : u m with
          | none =>
            simp only [Option.getD_none]
            by_cases him : i < m
            · rw [if_pos him, if_pos (by omega)]
            · rw [if_neg him, if_neg (by omega)]
          | some y =>
            simp only [Option.getD_some]
            cases hui : u i with
            | none => simp
            | some z =>
              have := (h m (by omega) hmi (by simp [hum]) (by simp [hui])).1 hlm
              rw [if_neg (by omega)]
  have := key n (Nat.le_refl _)
  rwa [if_pos hi] at this

/-- What an operation does to a key: nothing; gone; a new content. -/
def Res.at (r : Res) (k : Nat) : Option (Option Blk) := if k ∈ r.kill then some none else (r.upd.lookup k).map some
def dstAt (ops : Array Oper) (i : Nat) : Option Tmp := (ops[i]?).bind (·.dst)
def uT (ops : Array Oper) (rs : Nat → Res) (t : Nat) (m : Nat) : Option AV := if dstAt ops m = some t then some (rs m).val else none
def vT (ops : Array Oper) (rs : Nat → Res) (L : Nat → Bool) (T : Nat → AV) (n t : Nat) : AV := vG (uT ops rs t) L (T t) n
def vM (rs : Nat → Res) (L : Nat → Bool) (M : Nat → Option Blk) (n k : Nat) : Option Blk := vG (fun m => (rs m).at k) L (M k) n
/-- An operand's abstract value. -/
def evA (G : Nat → Option Nat) (T : Nat → AV) : Operand → AV
  | .tmp t => T t
  | .const v => .ex v
  | .global g => match G g with | some k => .p k 0 | none => .ex (.pointer (some ⟨g, 0, none⟩))
  | .func f => .ex (.func (.func f) #[] #[])
/-- Where a call began: its world, where the blocks lie that it was handed, and how many keys these have. -/
structure Base where
  w : World
  ρ : Rho
  nb : Nat
  hb : ∀ k, nb ≤ k → ρ k = none
  hd : ∀ k, k < nb → ∃ l, ρ k = some l
structure MSat (G : Nat → Option Nat) (X : Nat → Prop) (w0 : Base) (N : Nat) (T : Nat → AV) (M : Nat → Option Blk) (F : Nat → Prop) (ρ : Rho) (a : Act) (w : World) : Prop where
  tsz : a.tmps.size = N
  tmp : ∀ t, Rel ρ (T t) (a.tmps.getD t undef)
  df : a.defers = []
  mem : ∀ k b, M k = some b → BRel ρ w k b
  inj : ∀ k k' b b' l l', k ≠ k' → M k = some b → M k' = some b' → b.wr = true → ρ k = some l → ρ k' = some l' → l.c ≠ 0 → l'.c ≠ 0 → l.b ≠ l'.b
  fresh : ∀ k, F k → ρ k = none
  glob : ∀ g k, G g = some k → ∃ l, ρ k = some l ∧ l.b = g ∧ l.d = 0
  own : ∀ k b l, M k = some b → b.wr = true → ρ k = some l → l.c ≠ 0 → w0.w.heap.size ≤ l.b ∨ X l.b
  old : ∀ k b, M k = some b → OldB w0.w X ρ k b
  fr : FrX X w0.w w
  base : w0.ρ.le ρ
theorem MSat.eval {G : Nat → Option Nat} {X : Nat → Prop} {w0 : Base} {N : Nat} {T : Nat → AV} {M : Nat → Option Blk} {F : Nat → Prop} {ρ : Rho} {a : Act} {w : World}
    (h : MSat G X w0 N T M F ρ a w) (x : Operand) : Rel ρ (evA G T x) (a.eval x) := by
  cases x with
  | tmp t => exact h.tmp t
  | const v => exact .ex v
  | func f => exact .ex _
  | global g =>
    cases hg : G g with
    | none => simp only [evA, Act.eval, hg]; exact .ex _
    | some k =>
      simp only [evA, Act.eval, hg]
      obtain ⟨l, h1, h2, h3⟩ := h.glob g k hg
      have := Rel.p (off := 0) h1
      rw [h2, h3] at this
      exact this
/-- What is asked of an operation's making, seen from the state ahead of it. -/
structure Wf (r : Res) (m : Nat → Option Blk) (lo hi : Nat) : Prop where
  nks : ∀ k ∈ r.nks, lo ≤ k ∧ k < hi
  wks : ∀ k ∈ r.wks, k ∈ r.rd ∧ r.at k ≠ none ∧ ∃ b, m k = some b ∧ b.wr = true
  kill : ∀ k ∈ r.kill, k ∈ r.wks
  upd : ∀ k b, r.at k = some (some b) → (k, b) ∈ r.upd ∧ (k ∈ r.nks ∨ (k ∈ r.wks ∧ b.wr = true))
  gone : ∀ k, r.at k = some none → k ∈ r.kill
  nat : ∀ k ∈ r.nks, r.at k ≠ none
def looks (ops : Array Oper) (i : Nat) : List Tmp := match ops[i]? with | some o => o.looksAt ops | none => []
def Conf (ops : Array Oper) (rs : Nat → Res) (i j : Nat) : Prop :=
  (∃ d, dstAt ops i = some d ∧ (d ∈ looks ops j ∨ dstAt ops j = some d)) ∨ (∃ d, dstAt ops j = some d ∧ d ∈ looks ops i) ∨
  (∃ k, (rs i).at k ≠ none ∧ (k ∈ (rs j).rd ∨ (rs j).at k ≠ none)) ∨ (∃ k, k ∈ (rs i).rd ∧ (rs j).at k ≠ none)
/-- Is an operation with this guard carried out? -/
def wantA (ops : Array Oper) (T : Nat → AV) (o : Oper) : Option Bool :=
  match o.guard with
  | none => some true
  | some (j, want) => match dstAt ops j with
    | some d => match T d with
      | .ex (.bool b) => some (b == want)
      | .ex (.tuple _) => some false
      | _ => none
    | none => none
end

section
section
variable {P : Program} {ops : Array Oper} {rs : Nat → Res} {G : Nat → Option Nat} {X : Nat → Prop} {w0 : Base} {N n0 : Nat} {T : Nat → AV} {M : Nat → Option Blk}
def freshF (rs : Nat → Res) (n0 n : Nat) (L : Nat → Bool) (k : Nat) : Prop := n0 ≤ k ∧ ∀ i, i < n → L i = true → k ∉ (rs i).nks
/-- The state behind the operations that L lists. -/
def InvL (ops : Array Oper) (rs : Nat → Res) (G : Nat → Option Nat) (X : Nat → Prop) (w0 : Base) (N n0 : Nat) (T : Nat → AV) (M : Nat → Option Blk) (L : Nat → Bool) (a : Act) (w : World) : Prop :=
  ∃ ρ, MSat G X w0 N (vT ops rs L T ops.size) (vM rs L M ops.size) (freshF rs n0 ops.size L) ρ a w
def all1 : Nat → Bool := fun _ => true
structure OpsOK (P : Program) (W : World) (X : Nat → Prop) (ops : Array Oper) (rs : Nat → Res) (G : Nat → Option Nat) (N n0 : Nat) (T : Nat → AV) (M : Nat → Option Blk) : Prop where
  ok : ∀ i o, ops[i]? = some o → (wantA ops (vT ops rs all1 T i) o = some true ∧ OpOK P G W X o (evA G (vT ops rs all1 T i)) (vM rs all1 M i) (rs i)) ∨ (wantA ops (vT ops rs all1 T i) o = some false ∧ rs i = { val := .ex undef })
  wf : ∀ i, i < ops.size → Wf (rs i) (vM rs all1 M i) (n0 + 4 * i) (n0 + 4 * i + 4)
  dst : ∀ i d, dstAt ops i = some d → d < N
theorem lookup_mem {k : Nat} {b : Blk} : ∀ {l : List (Nat × Blk)}, l.lookup k = some b → (k, b) ∈ l
  | (k', b') :: l, h => by
    rw [List.lookup_cons] at h
    split at h
    · rename_i e
      cases h
      have : k = k' := by simpa using e
      subst this
      exact List.mem_cons_self
    · exact List.mem_cons_of_mem _ (lookup_mem h)

theorem put_getD (a : Act) (d : Option Tmp) (v : Value) (t : Nat) (h : ∀ e, d = some e → e < a.tmps.size) :
    (a.put d v).tmps.getD t undef = if d = some t then v else a.tmps.getD t undef := by
  cases d with
  | none => simp [Act.put]
  | some e =>
    have he := h e rfl
    simp only [Act.put, Option.some.injEq, Array.getD_eq_getD_getElem?, Array.getElem?_setIfInBounds]
    by_cases hte : e = t
    · subst hte; simp [he]
    · simp [hte]
theorem looks_mem {i : Nat} {o : Oper} (h : ops[i]? = some o) {t : Tmp} (ht : .tmp t ∈ o.op.operands) : t ∈ looks ops i := by
  simp only [looks, h, Oper.looksAt]
  refine List.mem_append_left _ (List.mem_filterMap.2 ⟨.tmp t, ?_, rfl⟩)
  simpa using ht

theorem vT_seen {L : Nat → Bool} {i : Nat} (hi : i < ops.size) (hL : L i = false) (hc : ∀ j, j < ops.size → j ≠ i → Conf ops rs i j → (L j = true ↔ j < i)) {t : Nat} (ht : t ∈ looks ops i) :
    vT ops rs L T ops.size t = vT ops rs all1 T i t := by
  refine vG_same (by omega) fun j hj hu => ?_
  by_cases hji : j = i
  · subst hji; simp [hL]
  · refine hc j hj hji (.inr (.inl ⟨t, ?_, ht⟩))
    simp only [uT] at hu
    split at hu
    · assumption
    · exact absurd rfl hu
theorem vM_seen {L : Nat → Bool} {i : Nat} (hi : i < ops.size) (hL : L i = false) (hc : ∀ j, j < ops.size → j ≠ i → Conf ops rs i j → (L j = true ↔ j < i)) {k : Nat} (hk : k ∈ (rs i).rd) :
    vM rs L M ops.size k = vM rs all1 M i k := by
  refine vG_same (by omega) fun j hj hu => ?_
  by_cases hji : j = i
  · subst hji; simp [hL]
  · exact hc j hj hji (.inr (.inr (.inr ⟨k, hk, hu⟩)))
theorem vT_add {L : Nat → Bool} {i : Nat} (hi : i < ops.size) (hL : L i = false) (hc : ∀ j, j < ops.size → j ≠ i → Conf ops rs i j → (L j = true ↔ j < i)) (t : Nat) :
    vT ops rs (addL L i) T ops.size t = if dstAt ops i = some t then (rs i).val else vT ops rs L T ops.size t := by
  have := vG_add (u := uT ops rs t) (x := T t) hi hL fun j hj hji hu hu' => by
    refine hc j hj hji (.inl ?_)
    simp only [uT] at hu hu'
    split at hu
    · split at hu'
      · exact ⟨t, by assumption, .inr (by assumption)⟩
      · exact absurd rfl hu'
    · exact absurd rfl hu
  unfold vT
  rw [this, uT]
  split <;> rfl
theorem vM_add {L : Nat → Bool} {i : Nat} (hi : i < ops.size) (hL : L i = false) (hc : ∀ j, j < ops.size → j ≠ i → Conf ops rs i j → (L j = true ↔ j < i)) (k : Nat) :
    vM rs (addL L i) M ops.size k = ((rs i).at k).getD (vM rs L M ops.size k) :=
  vG_add (u := fun m => (rs m).at k) (x := M k) hi hL fun j hj hji hu hu' => hc j hj hji (.inr (.inr (.inl ⟨k, hu', .inr hu⟩)))

theorem inv_next {L : Nat → Bool} {i : Nat} {o : Oper} {a : Act} {w w' : World} {ρ ρ' : Rho} {v : Value} (hok : OpsOK P w0.w X ops rs G N n0 T M) (ho : ops[i]? = some o) (hL : L i = false)
    (hc : ∀ j, j < ops.size → j ≠ i → Conf ops rs i j → (L j = true ↔ j < i))
    (h : MSat G X w0 N (vT ops rs L T ops.size) (vM rs L M ops.size) (freshF rs n0 ops.size L) ρ a w) (hs : StepOf ρ w (rs i) v ρ' w') (hu : ∀ k b, (k, b) ∈ (rs i).upd → OldB w0.w X ρ' k b) :
    InvL ops rs G X w0 N n0 T M (addL L i) (a.put o.dst v) w' := by
  have hi : i < ops.size := (Array.getElem?_eq_some_iff.1 ho).1
  have hd : dstAt ops i = o.dst := by simp [dstAt, ho]
  have wf := hok.wf i hi
  have hM := vM_add (M := M) hi hL hc
  have hT := vT_add (T := T) hi hL hc
  -- the keys that are written stood
  have hw : ∀ k ∈ (rs i).wks, ∃ b, vM rs L M ops.size k = some b ∧ b.wr = true := fun k hk => by
    obtain ⟨h1, _, b, h2, h3⟩ := wf.wks k hk
    exact ⟨b, by rw [vM_seen hi hL hc h1]; exact h2, h3⟩
  have old : ∀ k b, vM rs L M ops.size k = some b → k ∉ (rs i).nks := fun k b hk hn => by
    obtain ⟨l, hl⟩ := (h.mem k b hk).loc
    have := (wf.nks k hn)
    have hf := h.fresh k ⟨by omega, fun j hj hLj hjn => by
      have := (hok.wf j hj).nks k hjn
      have hne : j ≠ i := fun e => by subst e; rw [hL] at hLj; cases hLj
      omega⟩
    rw [hl] at hf; cases hf
  have keep : ∀ k b, vM rs L M ops.size k = some b → (rs i).at k = none → BRel ρ' w' k b := fun k b hk hn =>
    (h.mem k b hk).keep hs.ext fun l hl hcc hlt => hs.fr.block l.b hlt fun k' hk' l' hl' hc' => by
      obtain ⟨b', hb', hwr⟩ := hw k' hk'
      exact h.inj k' k b' b l' l (fun e => (wf.wks k' hk').2.1 (e ▸ hn)) hb' hk hwr hl' hl hc' hcc
  -- what stands behind, key by key
  have cases' : ∀ k b, vM rs (addL L i) M ops.size k = some b → (vM rs L M ops.size k = some b ∧ (rs i).at k = none) ∨ ((k, b) ∈ (rs i).upd ∧ k ∈ (rs i).nks) ∨ ((k, b) ∈ (rs i).upd ∧ k ∈ (rs i).wks ∧ k ∉ (rs i).kill ∧ b.wr = true ∧ ∃ b0, vM rs L M ops.size k = some b0 ∧ b0.wr = true) := by
    intro k b hk
    rw [hM] at hk
    cases hat : (rs i).at k with
    | none => rw [hat] at hk; exact .inl ⟨hk, rfl⟩
    | some x =>
      rw [hat] at hk
      simp only [Option.getD_some] at hk
      subst hk
      obtain ⟨h1, h2⟩ := wf.upd k b hat
      rcases h2 with h2 | ⟨h2, h3⟩
      · exact .inr (.inl ⟨h1, h2⟩)
      · refine .inr (.inr ⟨h1, h2, fun hkill => ?_, h3, hw k h2⟩)
        simp [Res.at, hkill] at hat
  have loc : ∀ k b l, vM rs L M ops.size k = some b → ρ' k = some l → ρ k = some l := fun k b l hk hl => by rw [← hs.same k (old k b hk)]; exact hl
  refine ⟨ρ', ⟨?_, ?_, ?_, ?_, ?_, ?_, ?_, ?_, ?_, ?_, Rho.le_trans h.base hs.ext⟩⟩
  · have := h.tsz
    cases hdd : o.dst <;> simp [Act.put, this]
  · intro t
    rw [hT, put_getD _ _ _ _ (fun e he => by rw [h.tsz]; exact hok.dst i e (by rw [hd, he])), hd]
    split
    · exact hs.val
    · exact (h.tmp t).mono hs.ext
  · have := h.df
    cases hdd : o.dst <;> simp [Act.put, this]
  · intro k b hk
    rcases cases' k b hk with ⟨h1, h2⟩ | ⟨h1, _⟩ | ⟨h1, _⟩
    · exact keep k b h1 h2
    · exact hs.upd k b h1
    · exact hs.upd k b h1
  · intro k k' b b' l l' hne hk hk' hwr hl hl' hcc hcc'
    rcases cases' k b hk with ⟨h1, h2⟩ | ⟨h1, h2⟩ | ⟨h1, h2, h2k, _, b0, h3, h3w⟩
    · rcases cases' k' b' hk' with ⟨g1, g2⟩ | ⟨g1, g2⟩ | ⟨g1, g2, g2k, _, b0', g3, g3w⟩
      · exact h.inj k k' b b' l l' hne h1 g1 hwr (loc _ _ _ h1 hl) (loc _ _ _ g1 hl') hcc hcc'
      · obtain ⟨_, hn⟩ := hs.new k' g2 l' hl' hcc'
        have hlk := (h.mem k b h1).lt (loc _ _ _ h1 hl) hcc
        rcases hn with hn | ⟨k2, hk2, l2, hl2, hc2, e⟩
        · omega
        · obtain ⟨b2, hb2, _⟩ := hw k2 (wf.kill k2 hk2)
          rw [← e]
          exact h.inj k k2 b b2 l l2 (fun e => by subst e; exact (wf.wks _ (wf.kill _ hk2)).2.1 h2) h1 hb2 hwr (loc _ _ _ h1 hl) hl2 hcc hc2
      · exact h.inj k k' b b0' l l' hne h1 g3 hwr (loc _ _ _ h1 hl) (loc _ _ _ g3 hl') hcc hcc'
    · obtain ⟨_, hn⟩ := hs.new k h2 l hl hcc
      rcases cases' k' b' hk' with ⟨g1, g2⟩ | ⟨g1, g2⟩ | ⟨g1, g2, g2k, _, b0', g3, g3w⟩
      · have hlk := (h.mem k' b' g1).lt (loc _ _ _ g1 hl') hcc'
        rcases hn with hn | ⟨k2, hk2, l2, hl2, hc2, e⟩
        · omega
        · obtain ⟨b2, hb2, hb2w⟩ := hw k2 (wf.kill k2 hk2)
          rw [← e]
          exact h.inj k2 k' b2 b' l2 l' (fun e => by subst e; exact (wf.wks _ (wf.kill _ hk2)).2.1 g2) hb2 g1 hb2w hl2 (loc _ _ _ g1 hl') hc2 hcc'
      · exact hs.dist k h2 k' g2 hne l l' hl hl' hcc hcc'
      · have hlk := (h.mem k' b0' g3).lt (loc _ _ _ g3 hl') hcc'
        rcases hn with hn | ⟨k2, hk2, l2, hl2, hc2, e⟩
        · omega
        · obtain ⟨b2, hb2, hb2w⟩ := hw k2 (wf.kill k2 hk2)
          rw [← e]
          exact h.inj k2 k' b2 b0' l2 l' (fun e => by subst e; exact g2k hk2) hb2 g3 hb2w hl2 (loc _ _ _ g3 hl') hc2 hcc'
    · rcases cases' k' b' hk' with ⟨g1, g2⟩ | ⟨g1, g2⟩ | ⟨g1, g2, g2k, _, b0', g3, g3w⟩
      · exact h.inj k k' b0 b' l l' hne h3 g1 h3w (loc _ _ _ h3 hl) (loc _ _ _ g1 hl') hcc hcc'
      · obtain ⟨_, hn⟩ := hs.new k' g2 l' hl' hcc'
        have hlk := (h.mem k b0 h3).lt (loc _ _ _ h3 hl) hcc
        rcases hn with hn | ⟨k2, hk2, l2, hl2, hc2, e⟩
        · omega
        · obtain ⟨b2, hb2, _⟩ := hw k2 (wf.kill k2 hk2)
          rw [← e]
          exact h.inj k k2 b0 b2 l l2 (fun e => by subst e; exact h2k hk2) h3 hb2 h3w (loc _ _ _ h3 hl) hl2 hcc hc2
      · exact h.inj k k' b0 b0' l l' hne h3 g3 h3w (loc _ _ _ h3 hl) (loc _ _ _ g3 hl') hcc hcc'
  · intro k hk
    have hni : k ∉ (rs i).nks := hk.2 i hi (by simp [addL])
    rw [hs.same k hni]
    refine h.fresh k ⟨hk.1, fun j hj hLj => hk.2 j hj ?_⟩
    simp only [addL]
    split
    · rfl
    · exact hLj
  · intro g k hg
    obtain ⟨l, h1, h2⟩ := h.glob g k hg
    exact ⟨l, hs.ext _ _ h1, h2⟩
  · intro k b l hk hwr hl hcc
    rcases cases' k b hk with ⟨h1, h2⟩ | ⟨h1, h2⟩ | ⟨h1, h2, _, _, b0, h3, h3w⟩
    · exact h.own k b l h1 hwr (loc _ _ _ h1 hl) hcc
    · obtain ⟨_, hn⟩ := hs.new k h2 l hl hcc
      rcases hn with hn | ⟨k2, hk2, l2, hl2, hc2, e⟩
      · exact .inl (Nat.le_trans h.fr.size hn)
      · obtain ⟨b2, hb2, hb2w⟩ := hw k2 (wf.kill k2 hk2)
        rw [← e]
        exact h.own k2 b2 l2 hb2 hb2w hl2 hc2
    · exact h.own k b0 l h3 h3w (loc _ _ _ h3 hl) hcc
  · intro k b hk
    rcases cases' k b hk with ⟨h1, h2⟩ | ⟨h1, h2⟩ | ⟨h1, h2, _⟩
    · exact (h.old k b h1).mono fun l e => hs.ext _ _ e
    · exact hu k b h1
    · exact hu k b h1
  · refine ⟨hs.fr.os.trans h.fr.os, hs.fr.tape.trans h.fr.tape, hs.fr.output.trans h.fr.output, Nat.le_trans h.fr.size hs.fr.size, fun b hb hx => ?_⟩
    refine (hs.fr.block b (Nat.lt_of_lt_of_le hb h.fr.size) fun k hk l hl hcc e => ?_).trans (h.fr.block b hb hx)
    obtain ⟨b', hb', hwr⟩ := hw k hk
    rcases h.own k b' l hb' hwr hl hcc with h' | h'
    · omega
    · exact hx (e ▸ h')
theorem bool_of_rel {ρ : Rho} {b : Bool} {v : Value} (h : Rel ρ (.ex (.bool b)) v) : v = .bool b := by cases h; rfl
theorem wanted_eq {L : Nat → Bool} {i : Nat} {o : Oper} {a : Act} {w : World} {ρ : Rho} {x : Bool} (ho : ops[i]? = some o) (hL : L i = false)
    (hc : ∀ j, j < ops.size → j ≠ i → Conf ops rs i j → (L j = true ↔ j < i))
    (h : MSat G X w0 N (vT ops rs L T ops.size) (vM rs L M ops.size) (freshF rs n0 ops.size L) ρ a w)
    (hw : wantA ops (vT ops rs all1 T i) o = some x) : Region.wanted o (yielded ops a.tmps) = x := by
  have hi : i < ops.size := (Array.getElem?_eq_some_iff.1 ho).1
  unfold wantA at hw
  unfold Region.wanted
  split at hw
  · rename_i hg
    rw [hg]; cases hw; rfl
  · rename_i j want hg
    rw [hg]
    split at hw
    · rename_i d hd
      split at hw
      · rename_i b hb
        cases hw
        have hlook : d ∈ looks ops i := by
          simp only [looks, ho, Oper.looksAt, hg]
          refine List.mem_append_right _ ?_
          simp only [dstAt] at hd
          simp [hd]
        have hr := h.tmp d
        rw [vT_seen hi hL hc hlook, hb] at hr
        have hv := bool_of_rel hr
        have hy : yielded ops a.tmps j = some b := by
          unfold yielded
          simp only [dstAt] at hd
          rw [hd, Option.bind_some]
          rw [Array.getD_eq_getD_getElem?] at hv
          cases ht : a.tmps[d]? with
          | none => rw [ht] at hv; simp [undef] at hv
          | some y => rw [ht] at hv; simp at hv; subst hv; rfl
        simp [hy]
      · rename_i us hb
        cases hw
        have hlook : d ∈ looks ops i := by
          simp only [looks, ho, Oper.looksAt, hg]
          refine List.mem_append_right _ ?_
          simp only [dstAt] at hd
          simp [hd]
        have hr := h.tmp d
        rw [vT_seen hi hL hc hlook, hb] at hr
        have hv : a.tmps.getD d undef = .tuple us := by generalize a.tmps.getD d undef = u at hr; cases hr; rfl
        have hy : yielded ops a.tmps j = none := by
          unfold yielded
          simp only [dstAt] at hd
          rw [hd, Option.bind_some]
          rw [Array.getD_eq_getD_getElem?] at hv
          cases ht : a.tmps[d]? with
          | none => rfl
          | some y => rw [ht] at hv; simp at hv; subst hv; rfl
        simp [hy]
      · cases hw
    · cases hw
theorem inv_step {L : Nat → Bool} {i : Nat} {o : Oper} {a : Act} {w : World} {Q : Exit → Act → World → Prop} {K : Act → World → Prop} (hok : OpsOK P w0.w X ops rs G N n0 T M) (ho : ops[i]? = some o) (hL : L i = false)
    (hc : ∀ j, j < ops.size → j ≠ i → Conf ops rs i j → (L j = true ↔ j < i))
    (h : InvL ops rs G X w0 N n0 T M L a w) (hK : ∀ a' w', InvL ops rs G X w0 N n0 T M (addL L i) a' w' → K a' w') : wpOp P ops Q i K a w := by
  obtain ⟨ρ, h⟩ := h
  have hi : i < ops.size := (Array.getElem?_eq_some_iff.1 ho).1
  simp only [wpOp, ho]
  rcases hok.ok i o ho with ⟨hw, hop⟩ | ⟨hw, hr⟩
  · rw [wanted_eq ho hL hc h hw, if_pos rfl]
    refine .inl (hop ρ a w Q K (fun x hx => ?_) (fun k hk b hb => ?_) (fun k hk => ?_) (fun k hk k' hk' hne b b' l l' hb hb' hw1 hl hl' hc1 hc2 => ?_) (fun g k hg => h.glob g k hg) (fun k hk b hb => ?_) h.fr (fun k hk b l hb hw1 hl hc1 => ?_) (fun k hk l hl hc1 => ?_) (fun v w' ρ' hs hu => ?_))
    · have := h.eval x
      cases x with
      | tmp t => rw [evA, vT_seen hi hL hc (looks_mem ho hx)] at this; exact this
      | const v => exact this
      | global g => exact this
      | func f => exact this
    · refine h.mem k b ?_
      rw [vM_seen hi hL hc hk]; exact hb
    · have := (hok.wf i hi).nks k hk
      refine h.fresh k ⟨by omega, fun j hj hLj hjn => ?_⟩
      have := (hok.wf j hj).nks k hjn
      have hne : j ≠ i := fun e => by subst e; rw [hL] at hLj; cases hLj
      omega
    · exact h.inj k k' b b' l l' hne (by rw [vM_seen hi hL hc hk]; exact hb) (by rw [vM_seen hi hL hc hk']; exact hb') hw1 hl hl' hc1 hc2
    · exact h.old k b (by rw [vM_seen hi hL hc hk]; exact hb)
    · exact h.own k b l (by rw [vM_seen hi hL hc hk]; exact hb) hw1 hl hc1
    · obtain ⟨g1, _, b, g2, g3⟩ := (hok.wf i hi).wks k hk
      exact h.own k b l (by rw [vM_seen hi hL hc g1]; exact g2) g3 hl hc1
    · exact hK _ _ (inv_next hok ho hL hc h hs hu)
  · rw [wanted_eq ho hL hc h hw, if_neg (by simp)]
    refine hK _ _ (inv_next hok ho hL hc h (ρ' := ρ) ?_ (by rw [hr]; exact fun _ _ hm => nomatch hm))
    rw [hr]
    exact ⟨Rho.le_refl _, fun _ _ => rfl, .ex _, (fun _ _ hm => nomatch hm), Fr.refl _ _ _, (fun _ hm => nomatch hm), (fun _ hm => nomatch hm)⟩
/-- One after the other. -/
theorem seq_ops {Q : Exit → Act → World → Prop} (hok : OpsOK P w0.w X ops rs G N n0 T M) (hQ : ∀ a w, InvL ops rs G X w0 N n0 T M all1 a w → Q .normal a w) :
    ∀ m i, i + m = ops.size → ∀ a w, InvL ops rs G X w0 N n0 T M (fun j => decide (j < i)) a w → wpOps P ops Q (List.range' i m) a w := by
  intro m
  induction m with
  | zero =>
    intro i hi a w h
    simp only [List.range'_zero, wpOps]
    refine hQ a w ?_
    obtain ⟨ρ, h⟩ := h
    have e1 : ∀ t, vT ops rs all1 T ops.size t = vT ops rs (fun j => decide (j < i)) T ops.size t := fun t =>
      (vG_same (Nat.le_refl _) fun j hj _ => by simp; omega).symm
    have e2 : ∀ k, vM rs all1 M ops.size k = vM rs (fun j => decide (j < i)) M ops.size k := fun t =>
      (vG_same (Nat.le_refl _) fun j hj _ => by simp; omega).symm
    refine ⟨ρ, ?_⟩
    rw [funext e1, funext e2]
    exact ⟨h.tsz, h.tmp, h.df, h.mem, h.inj, fun k hk => h.fresh k ⟨hk.1, fun j hj _ => hk.2 j hj rfl⟩, h.glob, h.own, h.old, h.fr, h.base⟩
  | succ m ih =>
    intro i hi a w h
    have hlt : i < ops.size := by omega
    rw [List.range'_succ, wpOps_cons]
    refine inv_step (o := ops[i]) hok (by simp [hlt]) (by simp) (fun j hj hji _ => by simp) h fun a' w' h' => ?_
    refine ih (i + 1) (by omega) a' w' ?_
    have e : addL (fun j => decide (j < i)) i = fun j => decide (j < i + 1) := by
      funext j
      simp only [addL]
      split
      · rename_i e; subst e; simp
      · rename_i e
        have : (j < i) ↔ (j < i + 1) := by omega
        simp [this]
    rw [e] at h'
    exact h'
theorem region_seq {id : Nat} {Q : Exit → Act → World → Prop} {a : Act} {w : World} (hok : OpsOK P w0.w X ops rs G N n0 T M) (hQ : ∀ a w, InvL ops rs G X w0 N n0 T M all1 a w → Q .normal a w)
    (h : ∃ ρ, MSat G X w0 N T M (fun k => n0 ≤ k) ρ a w) : (Code.region id ops false).wp P Q a w := by
  refine wp_region ?_
  rw [List.range_eq_range']
  refine seq_ops hok hQ ops.size 0 (by omega) a w ?_
  obtain ⟨ρ, h⟩ := h
  have e1 : ∀ t, vT ops rs (fun j => decide (j < 0)) T ops.size t = T t := fun t => vG_same (i := 0) (Nat.zero_le _) (fun j hj _ => by simp)
  have e2 : ∀ t, vM rs (fun j => decide (j < 0)) M ops.size t = M t := fun t => vG_same (i := 0) (Nat.zero_le _) (fun j hj _ => by simp)
  refine ⟨ρ, ?_⟩
  rw [funext e1, funext e2]
  exact ⟨h.tsz, h.tmp, h.df, h.mem, h.inj, fun k hk => h.fresh k hk.1, h.glob, h.own, h.old, h.fr, h.base⟩
/-- Which ones surely came up ahead of each, as bits. -/
def clo (ops : List Oper) : List Nat :=
  ops.foldl (fun acc o => acc ++ [o.after.toList.foldl (fun s e => if Region.binds .any e then s ||| 2 ^ e.on ||| acc.getD e.on 0 else s) 0]) []
theorem clo_mask (L : Nat → Bool) (acc : List Nat) (hacc : ∀ i, L i = true → ∀ m, (acc.getD i 0).testBit m = true → L m = true) :
    ∀ (es : List Edge) (s : Nat), (∀ e ∈ es, Region.binds .any e = true → L e.on = true) → (∀ m, s.testBit m = true → L m = true) →
      ∀ m, (es.foldl (fun s e => if Region.binds .any e then s ||| 2 ^ e.on ||| acc.getD e.on 0 else s) s).testBit m = true → L m = true
  | [], s, _, hs, m, h => hs m h
  | e :: es, s, he, hs, m, h => by
    rw [List.foldl_cons] at h
    refine clo_mask L acc hacc es _ (fun e' h' => he e' (List.mem_cons_of_mem _ h')) (fun m' hm' => ?_) m h
    split at hm'
    · rename_i hb
      have hLe := he e List.mem_cons_self hb
      rw [Nat.testBit_or, Nat.testBit_or, Bool.or_eq_true, Bool.or_eq_true] at hm'
      rcases hm' with (h1 | h1) | h1
      · exact hs m' h1
      · rw [Nat.testBit_two_pow] at h1
        have : e.on = m' := by simpa using h1
        rw [← this]; exact hLe
      · exact hacc e.on hLe m' h1
    · exact hs m' hm'
theorem clo_down (L : Nat → Bool) : ∀ (os : List Oper) (acc : List Nat), (∀ i, L i = true → ∀ m, (acc.getD i 0).testBit m = true → L m = true) →
    (∀ i o, os[i]? = some o → L (acc.length + i) = true → ∀ e ∈ o.after, Region.binds .any e = true → L e.on = true) →
    ∀ i, L i = true → ∀ m, ((os.foldl (fun acc o => acc ++ [o.after.toList.foldl (fun s e => if Region.binds .any e then s ||| 2 ^ e.on ||| acc.getD e.on 0 else s) 0]) acc).getD i 0).testBit m = true → L m = true
  | [], acc, hacc, _, i, hi, m, h => hacc i hi m h
  | o :: os, acc, hacc, hd, i, hi, m, h => by
    rw [List.foldl_cons] at h
    refine clo_down L os _ (fun i' hi' m' hm' => ?_) (fun i' o' ho' hi' e he hb => ?_) i hi m h
    · rcases Nat.lt_trichotomy i' acc.length with hlt | heq | hgt
      · rw [List.getD_eq_getElem?_getD, List.getElem?_append_left hlt, ← List.getD_eq_getElem?_getD] at hm'
        exact hacc i' hi' m' hm'
      · subst heq
        rw [List.getD_eq_getElem?_getD, List.getElem?_append_right (Nat.le_refl _)] at hm'
        simp only [Nat.sub_self, List.getElem?_cons_zero, Option.getD_some] at hm'
        exact clo_mask L acc hacc o.after.toList 0 (fun e he hb => hd 0 o rfl (by simpa using hi') e (by simpa using he) hb) (fun m hm => by simp at hm) m' hm'
      · rw [List.getD_eq_getElem?_getD, List.getElem?_eq_none (by simp; omega)] at hm'
        simp at hm'
    · refine hd (i' + 1) o' (by simpa using ho') ?_ e he hb
      have : acc.length + (i' + 1) = (acc ++ [o.after.toList.foldl (fun s e => if Region.binds .any e then s ||| 2 ^ e.on ||| acc.getD e.on 0 else s) 0]).length + i' := by simp; omega
      rw [this]; exact hi'
structure OrdOK (ops : Array Oper) (rs : Nat → Res) : Prop where
  down : ∀ i o, ops[i]? = some o → ∀ e ∈ o.after, Region.binds .any e = true → e.on < i
  conf : ∀ i j, i < j → j < ops.size → Conf ops rs i j ∨ Conf ops rs j i → ((clo ops.toList).getD j 0).testBit i = true
theorem any_ops {Q : Exit → Act → World → Prop} (hok : OpsOK P w0.w X ops rs G N n0 T M) (hord : OrdOK ops rs) (hQ : ∀ a w, InvL ops rs G X w0 N n0 T M all1 a w → Q .normal a w) :
    ∀ (fuel : Nat) (listed : Array Bool) (a : Act) (w : World), listed.size = ops.size →
      (∀ i o, ops[i]? = some o → listed.getD i false = true → ∀ e ∈ o.after, Region.binds .any e = true → listed.getD e.on false = true) →
      (listed.toList.filter (! ·)).length = fuel → InvL ops rs G X w0 N n0 T M (fun i => listed.getD i false) a w → wpAny P .any ops Q fuel listed a w := by
  have fin : ∀ (listed : Array Bool) (a : Act) (w : World), listed.size = ops.size → Region.ready .any ops listed = [] → InvL ops rs G X w0 N n0 T M (fun i => listed.getD i false) a w → Q .normal a w := by
    intro listed a w hsz hr h
    have hall : ∀ i, i < ops.size → listed.getD i false = true := by
      intro i
      induction i using Nat.strongRecOn with
      | _ i ih =>
        intro hi
        cases hLi : listed.getD i false with
        | true => rfl
        | false =>
          exfalso
          have : i ∈ Region.ready .any ops listed := by
            refine mem_ready.2 ⟨?_, ops[i], by simp [hi], fun e he hb => ih e.on (hord.down i _ (by simp [hi]) e he hb) ?_⟩
            · have : i < listed.size := by omega
              simp [this] at hLi ⊢; exact hLi
            · have := hord.down i _ (by simp [hi]) e he hb
              omega
          rw [hr] at this; cases this
    refine hQ a w ?_
    obtain ⟨ρ, h⟩ := h
    have e1 : ∀ t, vT ops rs all1 T ops.size t = vT ops rs (fun i => listed.getD i false) T ops.size t := fun t =>
      (vG_same (Nat.le_refl _) fun j hj _ => by rw [hall j hj]; simp [hj]).symm
    have e2 : ∀ k, vM rs all1 M ops.size k = vM rs (fun i => listed.getD i false) M ops.size k := fun t =>
      (vG_same (Nat.le_refl _) fun j hj _ => by rw [hall j hj]; simp [hj]).symm
    refine ⟨ρ, ?_⟩
    rw [funext e1, funext e2]
    exact ⟨h.tsz, h.tmp, h.df, h.mem, h.inj, fun k hk => h.fresh k ⟨hk.1, fun j hj _ => hk.2 j hj rfl⟩, h.glob, h.own, h.old, h.fr, h.base⟩
  intro fuel
  induction fuel with
  | zero =>
    intro listed a w hsz hdn hf h
    have hr : Region.ready .any ops listed = [] := by
      cases hr : Region.ready .any ops listed with
      | nil => rfl
      | cons i l =>
        exfalso
        have hi := mem_ready.1 (show i ∈ Region.ready .any ops listed by rw [hr]; exact List.mem_cons_self)
        obtain ⟨h1, _⟩ := hi
        have hlt : i < listed.size := by
          rcases Nat.lt_or_ge i listed.size with h' | h'
          · exact h'
          · simp [Array.getElem?_eq_none h'] at h1
        have : listed[i] ∈ listed.toList.filter (! ·) := by
          refine List.mem_filter.2 ⟨by simp, ?_⟩
          simp [hlt] at h1; simp [h1]
        rw [List.length_eq_zero_iff.1 hf] at this
        cases this
    exact ⟨hr, fin listed a w hsz hr h⟩
  | succ fuel ih =>
    intro listed a w hsz hdn hf h
    refine ⟨fun hr => fin listed a w hsz hr h, fun i hi => ?_⟩
    obtain ⟨h1, o, ho, hall⟩ := mem_ready.1 hi
    have hlt : i < listed.size := by
      rcases Nat.lt_or_ge i listed.size with h' | h'
      · exact h'
      · simp [Array.getElem?_eq_none h'] at h1
    have hLi : listed.getD i false = false := by simp [hlt] at h1 ⊢; exact h1
    have hcl := clo_down (fun i => listed.getD i false) ops.toList [] (fun i _ m hm => by simp at hm) (fun i o ho' hL e he hb => hdn i o (by simpa using ho') (by simpa using hL) e he hb)
    refine inv_step hok ho hLi (fun j hj hji hcf => ?_) h fun a' w' h' => ?_
    · rcases Nat.lt_or_gt_of_ne hji with hlt' | hgt
      · refine ⟨fun _ => hlt', fun _ => ?_⟩
        -- j stands ahead of i: the bits of i are listed
        have hbj := hord.conf j i hlt' (by omega) (.inr hcf)
        have hcl' := clo_down (fun m => listed.getD m false || decide (m = i)) ops.toList [] (fun i _ m hm => by simp at hm) (fun i' o' ho' hL e he hb => by
          simp only [List.length_nil, Nat.zero_add, Bool.or_eq_true, decide_eq_true_eq] at hL
          rcases hL with hL | hL
          · rw [hdn i' o' (by simpa using ho') hL e he hb]; rfl
          · subst hL
            have ho'' : ops[i']? = some o' := by simpa using ho'
            rw [ho] at ho''; cases ho''
            rw [hall e he hb]; rfl) i (by simp) j hbj
        simp only [Bool.or_eq_true, decide_eq_true_eq] at hcl'
        exact hcl'.resolve_right hji
      · refine ⟨fun hLj => ?_, fun hlt' => by omega⟩
        exfalso
        have hb := hord.conf i j hgt hj (.inl hcf)
        have := hcl j hLj i hb
        rw [hLi] at this; cases this
    · refine ih (listed.setIfInBounds i true) a' w' (by simp [hsz]) (fun i' o' ho' hL e he hb => ?_) ?_ ?_
      · by_cases hii : i' = i
        · subst hii
          rw [ho] at ho'; cases ho'
          have := hall e he hb
          by_cases hei : i' = e.on
          · simp [← hei, hlt]
          · simpa [Array.getElem?_setIfInBounds, hei] using this
        · have hL' : listed.getD i' false = true := by simpa [Array.getElem?_setIfInBounds, Ne.symm hii] using hL
          have := hdn i' o' ho' hL' e he hb
          by_cases hei : i = e.on
          · simp [← hei, hlt]
          · simpa [Array.getElem?_setIfInBounds, hei] using this
      · have hx : listed[i] = false := by simp [hlt] at hLi; exact hLi
        have : ∀ (l : List Bool) (i : Nat) (h : i < l.length), l[i] = false → ((l.set i true).filter (! ·)).length + 1 = (l.filter (! ·)).length := by
          intro l
          induction l with
          | nil => intro i h; simp at h
          | cons x xs ihx =>
            intro i h hx
            cases i with
            | zero => simp at hx; subst hx; simp
            | succ i =>
              have := ihx i (by simpa using h) (by simpa using hx)
              simp only [List.set_cons_succ, List.filter_cons]
              split <;> (try simp only [List.length_cons]) <;> omega
        have := this listed.toList i (by simpa using hlt) (by simpa using hx)
        rw [Array.toList_setIfInBounds]
        omega
      · have e : (fun j => (listed.setIfInBounds i true).getD j false) = addL (fun i => listed.getD i false) i := by
          funext j
          simp only [addL]
          by_cases hj : j = i
          · subst hj; simp [hlt]
          · simp [Ne.symm hj, hj]
        rw [e]; exact h'
theorem region_any {id : Nat} {Q : Exit → Act → World → Prop} {a : Act} {w : World} (hm : P.follows .mixedOrders = true) (hok : OpsOK P w0.w X ops rs G N n0 T M) (hord : OrdOK ops rs) (hQ : ∀ a w, InvL ops rs G X w0 N n0 T M all1 a w → Q .normal a w)
    (h : ∃ ρ, MSat G X w0 N T M (fun k => n0 ≤ k) ρ a w) : (Code.region id ops true).wp P Q a w := by
  refine wp_region_any hm (any_ops hok hord hQ ops.size _ a _ (by simp) (fun i o ho hL => ?_) ?_ ?_)
  · exfalso
    have : i < ops.size := (Array.getElem?_eq_some_iff.1 ho).1
    simp [this] at hL
  · simp
  · obtain ⟨ρ, h⟩ := h
    have hz : ∀ i, (Array.replicate ops.size false).getD i false = false := fun i => by
      by_cases hi : i < ops.size <;> simp [hi]
    have e1 : ∀ t, vT ops rs (fun i => (Array.replicate ops.size false).getD i false) T ops.size t = T t := fun t => vG_same (i := 0) (Nat.zero_le _) (fun j hj _ => by rw [hz]; simp)
    have e2 : ∀ t, vM rs (fun i => (Array.replicate ops.size false).getD i false) M ops.size t = M t := fun t => vG_same (i := 0) (Nat.zero_le _) (fun j hj _ => by rw [hz]; simp)
    refine ⟨ρ, ?_⟩
    rw [funext e1, funext e2]
    refine ⟨h.tsz, h.tmp, h.df, fun k b hk => (h.mem k b hk).keep (Rho.le_refl _) fun _ _ _ _ => rfl, h.inj, fun k hk => h.fresh k hk.1, h.glob, h.own, h.old, ⟨h.fr.os, h.fr.tape, h.fr.output, h.fr.size, h.fr.block⟩, h.base⟩
end
end
end Go.Proofs.YtdfbcdgneboilaaDoor.Ab
