/- Own: what single operations do to the abstract heap (no statement is proved here). -/
import Derived.Test.YtdfbcdgneboilaaDoorA1
import Derived.Laws.CopyRow
import Derived.Laws.Rows
import Derived.Laws.BytesString
import Derived.Laws.MakeOwn
import Derived.Deep.AppendSrc
namespace Go.Proofs.YtdfbcdgneboilaaDoor.Ab
open Go.RowKit

section
variable {P : Program} {G : Nat → Option Nat}
theorem OpOK0.of_run {o : Oper} {ev : Operand → AV} {m : Nat → Option Blk} {r : Res}
    (h : ∀ (ρ : Rho) (a : Act) (w : World), (∀ x ∈ o.op.operands, Rel ρ (ev x) (a.eval x)) → (∀ k ∈ r.rd, ∀ b, m k = some b → BRel ρ w k b) → (∀ k ∈ r.nks, ρ k = none) →
      ∃ v w' ρ', ((execOp a.eval o).run P w = .ok (.value v) w' ∨ ((execOp a.eval o).run P w = .ok .skip w' ∧ v = undef)) ∧ StepOf ρ w r v ρ' w') : OpOK0 P G o ev m r := by
  intro ρ a w Q K h1 h2 h3 h5 h6 _ h4
  obtain ⟨v, w', ρ', hr, hs⟩ := h ρ a w h1 h2 h3
  unfold Oper.wp
  rcases hr with hr | ⟨hr, rfl⟩
  · rw [hr, Oper.upon_value]; exact h4 v w' ρ' hs
  · rw [hr, Oper.upon_skip]; exact h4 _ w' ρ' hs
theorem StepOf.plain {ρ : Rho} {w : World} {x : AV} {rd : List Nat} {v : Value} (h : Rel ρ x v) : StepOf ρ w { val := x, rd := rd } v ρ w :=
  ⟨Rho.le_refl _, fun _ _ => rfl, h, (fun _ _ hm => nomatch hm), Fr.refl _ _ _, (fun _ hm => nomatch hm), (fun _ hm => nomatch hm)⟩
/-- A new key. -/
def Rho.add (ρ : Rho) (k : Nat) (l : Loc) : Rho := fun j => if j = k then some l else ρ j
theorem Rho.add_same (ρ : Rho) (k : Nat) (l : Loc) : ρ.add k l k = some l := by simp [Rho.add]
theorem Rho.add_other (ρ : Rho) (k : Nat) (l : Loc) (j : Nat) (h : j ≠ k) : ρ.add k l j = ρ j := by simp [Rho.add, h]
theorem Rho.le_add {ρ : Rho} {k : Nat} {l : Loc} (h : ρ k = none) : ρ.le (ρ.add k l) := fun j l' e => by
  by_cases hj : j = k
  · subst hj; rw [h] at e; cases e
  · rw [Rho.add_other _ _ _ _ hj]; exact e
theorem alloc_at (w : World) (o : Obj) : (w.alloc o).heap[w.heap.size]? = some o := by
  show (w.heap.push o)[w.heap.size]? = some o
  simp
theorem Fr.alloc (ρ : Rho) (ks : List Nat) (w : World) (o : Obj) : Fr ρ ks w (w.alloc o) :=
  ⟨rfl, rfl, rfl, by simp, fun _ hb _ => Below.heap_alloc _ _ _ hb⟩
theorem Has.alloc (w : World) (cs : List Value) (t : TypeId) : Has (w.alloc (.cells cs.toArray t)) w.heap.size cs :=
  ⟨t, (0, 0), alloc_at _ _, .inl rfl⟩
/-- A new block. -/
theorem StepOf.fresh {ρ : Rho} {w : World} {r : Res} {k : Nat} {b : Blk} {v : Value} {c : Nat} (o : Obj) (hk : ρ k = none) (hn : r.nks = [k]) (hu : r.upd = [(k, b)])
    (hv : Rel (ρ.add k ⟨w.heap.size, 0, c⟩) r.val v) (hb : BRel (ρ.add k ⟨w.heap.size, 0, c⟩) (w.alloc o) k b) : StepOf ρ w r v (ρ.add k ⟨w.heap.size, 0, c⟩) (w.alloc o) := by
  refine ⟨Rho.le_add hk, fun j hj => Rho.add_other _ _ _ _ (by rw [hn] at hj; simpa using hj), hv, fun k' b' h => ?_, Fr.alloc _ _ _ _, fun k' h' l hl _ => ?_, fun k' h' k2 h2 hne => ?_⟩
  · rw [hu] at h; simp at h; obtain ⟨rfl, rfl⟩ := h; exact hb
  · rw [hn] at h'; simp at h'; subst h'
    rw [Rho.add_same] at hl; cases hl
    exact ⟨by simp, .inl (Nat.le_refl _)⟩
  · rw [hn] at h' h2; simp at h' h2; exact absurd (h'.trans h2.symm) hne
theorem run_box (t : TypeId) (v : Value) (w : World) : (Instr.box t v).run P w = .ok (.pointer (some ⟨w.heap.size, 0, none⟩)) (w.alloc (.cells v.cells t)) := by
  simp [Instr.box, newVar, newRow, newObj, Sem.run]

/-! ## exact operands -/
def AV.isEx : AV → Bool
  | .ex _ => true
  | _ => false
def AV.exV : AV → Value
  | .ex v => v
  | _ => undef
/-- What needs no memory. -/
def pureRun (P : Program) {α : Type} : Sem α → Option α
  | .pure a => some a
  | .program k => pureRun P (k P)
  | .mark _ k => pureRun P k
  | _ => none
theorem pureRun_sound {α : Type} {a : α} : ∀ (s : Sem α), pureRun P s = some a → ∀ w, s.run P w = .ok a w
  | .pure a, h, w => by simp only [pureRun] at h; cases h; rfl
  | .program k, h, w => by simp only [pureRun] at h; simp only [Sem.run]; exact pureRun_sound (k P) h w
  | .mark m k, h, w => by simp only [pureRun] at h; simp only [Sem.run]; exact pureRun_sound k h w
def isSelect : Op → Bool
  | .select .. => true
  | _ => false
def evPure (P : Program) (ev : Operand → AV) (o : Oper) : Option Res :=
  if !isSelect o.op && o.op.operands.toList.all (fun x => (ev x).isEx) then
    match pureRun P (execOp (fun x => (ev x).exV) o) with
    | some (.value v) => some { val := .ex v }
    | _ => none
  else none
theorem rel_ex {ρ : Rho} {x : AV} {v : Value} (h : Rel ρ x v) (hx : x.isEx = true) : v = x.exV := by
  cases h <;> simp [AV.isEx] at hx
  rfl
theorem evPure_ok {ev : Operand → AV} {m : Nat → Option Blk} {o : Oper} {r : Res} (h : evPure P ev o = some r) : OpOK0 P G o ev m r := by
  unfold evPure at h
  split at h
  · rename_i hc
    rw [Bool.and_eq_true] at hc
    split at h
    · rename_i v hp
      cases h
      refine OpOK0.of_run fun ρ a w h1 _ _ => ⟨v, w, ρ, .inl ?_, StepOf.plain (.ex v)⟩
      rw [execOp_congr (ρ' := fun x => (ev x).exV) o (fun cs b e => by rw [e] at hc; simp [isSelect] at hc) (fun x hx => rel_ex (h1 x hx) (by
        have := List.all_eq_true.1 hc.2 x (by simpa using hx)
        exact this))]
      exact pureRun_sound _ hp w
    · cases h
  · cases h

/-! ## memory -/
def Blk.cells : Blk → Option (List Value)
  | .own cs | .view cs | .row cs => some cs
  | .rowX _ cs => some cs
  | .mix _ => none
  | .mixv _ => none
  | .rowA _ _ => none
  | .old _ => none
  | .rows _ => none
theorem BRel.cell {ρ : Rho} {w : World} {k : Nat} {b : Blk} {cs : List Value} {l : Loc} (h : BRel ρ w k b) (hc : b.cells = some cs) (hl : ρ k = some l) {i : Nat} {v : Value} (hi : cs[i]? = some v) :
    w.cell? ⟨l.b, l.d + i, none⟩ = some v := by
  cases b with
  | own cs' => cases hc; obtain ⟨l', h1, h2, h3, h4⟩ := h; rw [hl] at h1; cases h1; rw [h2, Nat.zero_add, h4.cell]; exact hi
  | mix cs' => cases hc
  | mixv cs' => cases hc
  | rowA _ _ => cases hc
  | old _ => cases hc
  | rows _ => cases hc
  | view cs' =>
    cases hc; obtain ⟨l', h1, h2⟩ := h; rw [hl] at h1; cases h1
    rcases h2 with ⟨_, rfl⟩ | ⟨_, _, h3⟩
    · simp at hi
    · exact h3 i v hi
  | rowX _ cs' =>
    cases hc; obtain ⟨l', h1, h2, h3⟩ := h; rw [hl] at h1; cases h1
    rcases h3 with ⟨_, rfl⟩ | ⟨_, rest, h4, _⟩
    · simp at hi
    · rw [h2, Nat.zero_add, h4.cell, List.getElem?_append_left (List.getElem?_eq_some_iff.1 hi).1]; exact hi
  | row cs' =>
    cases hc; obtain ⟨l', h1, h2, h3⟩ := h; rw [hl] at h1; cases h1
    rcases h3 with ⟨_, rfl⟩ | ⟨_, rest, h4, _⟩
    · simp at hi
    · rw [h2, Nat.zero_add, h4.cell, List.getElem?_append_left (List.getElem?_eq_some_iff.1 hi).1]; exact hi
def Blk.mixed : Blk → Option (List AV)
  | .mix cs | .mixv cs => some cs
  | .rowA _ cs => some cs
  | _ => none
theorem BRel.mixed {ρ : Rho} {w : World} {k : Nat} {b : Blk} {cs : List AV} {l : Loc} (h : BRel ρ w k b) (hc : b.mixed = some cs) (hl : ρ k = some l) : ∃ us, RelL ρ cs us ∧ ∀ (i : Nat) (v : Value), us[i]? = some v → w.cell? ⟨l.b, l.d + i, none⟩ = some v := by
  cases b with
  | own _ => cases hc
  | view _ => cases hc
  | row _ => cases hc
  | rowX _ _ => cases hc
  | old _ => cases hc
  | rows _ => cases hc
  | mix cs' =>
    cases hc; obtain ⟨l', us, h1, h2, h3, h4, h5⟩ := h; rw [hl] at h1; cases h1
    exact ⟨us, h5, fun i v hi => by rw [h2, Nat.zero_add, h4.cell]; exact hi⟩
  | mixv cs' =>
    cases hc; obtain ⟨l', us, h1, h2, h3, h4, h5⟩ := h; rw [hl] at h1; cases h1
    exact ⟨us, h5, h4⟩
  | rowA s cs' =>
    cases hc; obtain ⟨l', us, h1, h2, h5, h3⟩ := h; rw [hl] at h1; cases h1
    refine ⟨us, h5, fun i v hi => ?_⟩
    rcases h3 with ⟨_, rfl⟩ | ⟨_, rest, h4, _⟩
    · simp at hi
    · rw [h2, Nat.zero_add, h4.cell, List.getElem?_append_left (List.getElem?_eq_some_iff.1 hi).1]; exact hi
theorem BRel.mixed_c {ρ : Rho} {w : World} {k : Nat} {b : Blk} {cs : List AV} {l : Loc} (h : BRel ρ w k b) (hc : b.mixed = some cs) (hl : ρ k = some l) {us : List Value} (hr : RelL ρ cs us) (hne : us ≠ []) : l.c ≠ 0 := by
  cases b with
  | own _ => cases hc
  | view _ => cases hc
  | row _ => cases hc
  | rowX _ _ => cases hc
  | old _ => cases hc
  | rows _ => cases hc
  | mix cs' => obtain ⟨l', _, h1, _, h3, _⟩ := h; rw [hl] at h1; cases h1; exact h3
  | mixv cs' => obtain ⟨l', _, h1, h2, _⟩ := h; rw [hl] at h1; cases h1; exact h2
  | rowA s cs' =>
    cases hc
    obtain ⟨l', vs, h1, _, h5, h3⟩ := h; rw [hl] at h1; cases h1
    rcases h3 with ⟨_, rfl⟩ | ⟨h3, _⟩
    · exact absurd (List.length_eq_zero_iff.1 (by rw [← hr.1, h5.1]; rfl)) hne
    · exact h3
/-- Is a type composed, and of how many cells? -/
def aggT (P : Program) (t : TypeId) : Option (Bool × Nat) :=
  match P.underlying t, P.info? t with
  | some d, some i => some (match d with | .struct _ | .array _ _ => true | _ => false, i.size)
  | _, _ => none
theorem run_isAgg {t : TypeId} {b : Bool} {n : Nat} (h : aggT P t = some (b, n)) (w : World) : (isAgg t).run P w = .ok b w := by
  unfold aggT at h
  split at h
  · rename_i d i hd hi
    cases h
    simp only [isAgg, Sem.run_bind, run_underlying hd, Result.andThen_ok]
    cases d <;> rfl
  · cases h
theorem run_sizeOf {t : TypeId} {b : Bool} {n : Nat} (h : aggT P t = some (b, n)) (w : World) : (sizeOf t).run P w = .ok n w := by
  unfold aggT at h
  split at h
  · rename_i d i hd hi
    cases h
    simp [sizeOf, typeInfo, hi]
  · cases h
theorem addr_add (b off j : Nat) : (⟨b, off, none⟩ : Addr).add j = ⟨b, off + j, none⟩ := by
  unfold Addr.add; split <;> simp_all

inductive Ob where
  | le (a b : Nat)
  | ix (i : Int) (n : Nat)
  | one (cs : List Value)
  | u8 (cs : List Value)
  | eq (x y : AV)
  | call (G : Nat → Option Nat) (f : FuncId) (args : List AV) (M : List (Nat × Blk)) (r : Res)
def CallOK (P : Program) (G : Nat → Option Nat) (f : FuncId) (args : List AV) (M : List (Nat × Blk)) (r : Res) : Prop :=
  ∀ (ρ : Rho) (w : World) (vs : List Value), RelL ρ args vs → (∀ k b, (k, b) ∈ M → BRel ρ w k b) → (∀ k ∈ r.nks, ρ k = none) →
    (∀ k k' b b' l l', (k, b) ∈ M → (k', b') ∈ M → k ≠ k' → b.wr = true → ρ k = some l → ρ k' = some l' → l.c ≠ 0 → l'.c ≠ 0 → l.b ≠ l'.b) →
    (∀ g k, G g = some k → ∃ l, ρ k = some l ∧ l.b = g ∧ l.d = 0) →
    (∀ k b, (k, b) ∈ M → OldB w (wrote ρ r.wks) ρ k b) →
    Calls P f vs.toArray w fun e w' => ∃ v ρ', e = .returned v ∧ StepOf ρ w r v ρ' w'
def isU8 : Value → Bool
  | .int .u8 _ => true
  | _ => false
def Ob.holds (P : Program) : Ob → Prop
  | .le a b => a ≤ b
  | .ix i n => 0 ≤ i ∧ i < n
  | .one cs => cs.all (·.oneCell') = true
  | .u8 cs => cs.all isU8 = true
  | .eq x y => x = y
  | .call G f args M r => CallOK P G f args M r
def Ob.dec : Ob → Bool
  | .le a b => Nat.ble a b
  | .ix i n => decide (0 ≤ i) && decide (i < n)
  | .one cs => cs.all (·.oneCell')
  | .u8 cs => cs.all isU8
  | .eq .. => false
  | .call .. => false
theorem Ob.holds_of_dec {b : Ob} (h : b.dec = true) : b.holds P := by
  cases b with
  | le a b => exact Nat.le_of_ble_eq_true h
  | ix i n => simpa [Ob.dec, Ob.holds] using h
  | one cs => exact h
  | u8 cs => exact h
  | eq x y => cases h
  | call G f a M r => cases h
def AllOb (P : Program) : List Ob → Prop
  | [] => True
  | b :: bs => b.holds P ∧ AllOb P bs

/-! loads -/
def exAll : List AV → Option (List Value)
  | [] => some []
  | .ex v :: l => match exAll l with | some vs => some (v :: vs) | none => none
  | _ :: _ => none
/-- Cells taken together: exact, if they all are. -/
def packA (l : List AV) : AV := match exAll l with
  | some vs => .ex (.agg vs.toArray)
  | none => .agg l
def evLoad (P : Program) (ev : Operand → AV) (m : Nat → Option Blk) (t : TypeId) (x : Operand) : Option (Res × List Ob) :=
  match ev x, aggT P t with
  | .p k off, some (ag, n) => match m k with
    | some b => match b.mixed with
      | some cs => if ag then some ({ val := packA ((cs.drop off).take n), rd := [k] }, [.le (off + n) cs.length])
        else some ({ val := cs.getD off .j, rd := [k] }, [.le (off + 1) cs.length])
      | none => match b.cells with
        | some cs => if ag then some ({ val := .ex (.agg ((cs.drop off).take n).toArray), rd := [k] }, [.le (off + n) cs.length])
          else some ({ val := .ex (cs.getD off undef), rd := [k] }, [.le (off + 1) cs.length])
        | none => none
    | none => none
  | _, _ => none
theorem exec_load (a : Act) (o : Oper) (t : TypeId) (x : Operand) (ho : o.op = .load t x) (w : World) (ad : Addr) (hx : a.eval x = .pointer (some ad)) {v : Value} (h : (loadVar t ad).run P w = .ok v w) :
    (execOp a.eval o).run P w = .ok (.value v) w := by
  simp [execOp, ho, hx, Instr.loadAt, Instr.sureAddr, h]
theorem run_loadVar_cells {t : TypeId} {n : Nat} (h : aggT P t = some (true, n)) (w : World) (b o : Nat) (cs : List Value) (hn : cs.length = n) (hc : ∀ i v, cs[i]? = some v → w.cell? ⟨b, o + i, none⟩ = some v) :
    (loadVar t ⟨b, o, none⟩).run P w = .ok (.agg cs.toArray) w := by
  subst hn
  have hl := run_loadCells_list (P := P) w ⟨b, o, none⟩ cs (fun j v hv => by rw [addr_add]; exact hc j v hv)
  simp [loadVar, run_isAgg h, run_sizeOf h, hl]
theorem run_loadVar_one {t : TypeId} {n : Nat} (h : aggT P t = some (false, n)) (w : World) (a : Addr) (v : Value) (hc : w.cell? a = some v) :
    (loadVar t a).run P w = .ok v w := by
  simp [loadVar, run_isAgg h, load, Sem.run, hc]
theorem exAll_rel {ρ : Rho} : ∀ {l : List AV} {vs us : List Value}, exAll l = some vs → RelL ρ l us → us = vs
  | [], vs, us, h, hr => by
    cases h
    have := hr.1
    simp at this
    exact List.length_eq_zero_iff.1 this.symm
  | x :: l, vs, us, h, hr => by
    cases us with
    | nil => have := hr.1; simp at this
    | cons u us =>
      have h0 := hr.2 0 x u rfl rfl
      have ht : RelL ρ l us := ⟨by simpa using hr.1, fun i y v h1 h2 => hr.2 (i + 1) y v (by simpa using h1) (by simpa using h2)⟩
      cases h0 <;> simp only [exAll] at h <;> try (cases h; done)
      split at h
      · rename_i vs' he
        cases h
        rw [exAll_rel he ht]
      · cases h
theorem packA_rel {ρ : Rho} {l : List AV} {us : List Value} (h : RelL ρ l us) : Rel ρ (packA l) (.agg us.toArray) := by
  unfold packA
  split
  · rename_i vs he
    rw [exAll_rel he h]; exact .ex _
  · exact .agg h.1 h.2
theorem RelL.cut {ρ : Rho} {l : List AV} {vs : List Value} (h : RelL ρ l vs) (o n : Nat) : RelL ρ ((l.drop o).take n) ((vs.drop o).take n) := by
  refine ⟨by simp [h.1], fun i x v h1 h2 => ?_⟩
  rw [List.getElem?_take] at h1 h2
  split at h1
  · rw [if_pos (by assumption)] at h2
    rw [List.getElem?_drop] at h1 h2
    exact h.2 (o + i) x v h1 h2
  · cases h1
theorem cut_get {α : Type} {l : List α} {o n i : Nat} {v : α} (h : ((l.drop o).take n)[i]? = some v) : l[o + i]? = some v := by
  rw [List.getElem?_take] at h
  split at h
  · rwa [List.getElem?_drop] at h
  · cases h
theorem evLoad_run {ev : Operand → AV} {m : Nat → Option Blk} {t : TypeId} {x : Operand} {r : Res} {obs : List Ob} (h : evLoad P ev m t x = some (r, obs)) (hb : AllOb P obs) (ρ : Rho) (a : Act) (w : World) (h1 : Rel ρ (ev x) (a.eval x)) (h2 : ∀ k ∈ r.rd, ∀ b, m k = some b → BRel ρ w k b) :
    ∃ ad v, a.eval x = .pointer (some ad) ∧ (loadVar t ad).run P w = .ok v w ∧ Rel ρ r.val v ∧ r = { val := r.val, rd := r.rd } := by
  unfold evLoad at h
  split at h
  · rename_i k off ag n he ht
    have common : ∀ (ρ : Rho) (a : Act), Rel ρ (ev x) (a.eval x) → ∃ l, ρ k = some l ∧ a.eval x = .pointer (some ⟨l.b, l.d + off, none⟩) := fun ρ a hr => by
      rw [he] at hr
      generalize a.eval x = u at hr
      cases hr with
      | p e => exact ⟨_, e, rfl⟩
    split at h
    · rename_i b hm
      split at h
      · rename_i cs hcs
        split at h
        · rename_i hag
          subst hag
          cases h
          obtain ⟨hle, _⟩ := hb
          have hle : off + n ≤ cs.length := hle
          obtain ⟨l, hl, e⟩ := common ρ a h1
          obtain ⟨us, g5, g4⟩ := (h2 k (by simp) _ hm).mixed hcs hl
          refine ⟨_, _, e, run_loadVar_cells ht w _ _ ((us.drop off).take n) (by have := g5.1; simp; omega) (fun i v hv => ?_), packA_rel (g5.cut off n), rfl⟩
          rw [Nat.add_assoc]
          exact g4 _ _ (cut_get hv)
        · rename_i hag
          have hag : ag = false := by simpa using hag
          subst hag
          cases h
          obtain ⟨hle, _⟩ := hb
          have hle : off + 1 ≤ cs.length := hle
          obtain ⟨l, hl, e⟩ := common ρ a h1
          obtain ⟨us, g5, g4⟩ := (h2 k (by simp) _ hm).mixed hcs hl
          have hvl : off < us.length := by have := g5.1; omega
          refine ⟨_, us[off], e, run_loadVar_one ht w _ _ (g4 off _ (by simp [hvl])), ?_, rfl⟩
          refine g5.2 off _ _ ?_ (by simp [hvl])
          simp [List.getD, List.getElem?_eq_getElem (show off < cs.length by omega)]
      · split at h
        · rename_i cs hcs
          split at h
          · rename_i hag
            subst hag
            cases h
            obtain ⟨hle, _⟩ := hb
            have hle : off + n ≤ cs.length := hle
            obtain ⟨l, hl, e⟩ := common ρ a h1
            have hbr := h2 k (by simp) _ hm
            refine ⟨_, _, e, run_loadVar_cells ht w _ _ _ (by simp; omega) (fun i v hv => ?_), .ex _, rfl⟩
            rw [Nat.add_assoc]
            exact hbr.cell hcs hl (cut_get hv)
          · rename_i hag
            have hag : ag = false := by simpa using hag
            subst hag
            cases h
            obtain ⟨hle, _⟩ := hb
            have hle : off + 1 ≤ cs.length := hle
            obtain ⟨l, hl, e⟩ := common ρ a h1
            have hbr := h2 k (by simp) _ hm
            refine ⟨_, _, e, run_loadVar_one ht w _ _ (hbr.cell hcs hl ?_), .ex _, rfl⟩
            simp [List.getD, List.getElem?_eq_getElem (show off < cs.length by omega)]
        · cases h
    · cases h
  · cases h
theorem evLoad_ok {ev : Operand → AV} {m : Nat → Option Blk} {o : Oper} {t : TypeId} {x : Operand} {r : Res} {obs : List Ob} (ho : o.op = .load t x) (h : evLoad P ev m t x = some (r, obs)) (hb : AllOb P obs) : OpOK0 P G o ev m r := by
  have hx : x ∈ o.op.operands := by rw [ho]; simp [Op.operands]
  refine OpOK0.of_run fun ρ a w h1 h2 _ => ?_
  obtain ⟨ad, v, e1, e2, e3, e4⟩ := evLoad_run h hb ρ a w (h1 x hx) h2
  refine ⟨v, w, ρ, .inl (exec_load a o t x ho w ad e1 e2), ?_⟩
  rw [e4]; exact StepOf.plain e3
end

section
variable {P : Program} {G : Nat → Option Nat}
/-! stores -/
theorem run_storeCells_has (g o : Nat) : ∀ (vs : List Value) (i : Nat) (cur : List Value) (w : World), Has w g cur → o + i + vs.length ≤ cur.length → (∀ v ∈ vs, v.oneCell' = true) →
    (storeCells ⟨g, o, none⟩ vs i).run P w = .ok () (w.setRow g (cur.take (o + i) ++ vs ++ cur.drop (o + i + vs.length)).toArray)
  | [], i, cur, w, hg, _, _ => by
    obtain ⟨t, fr, hg, _⟩ := hg
    simp only [storeCells, List.append_nil, List.length_nil, Nat.add_zero, List.take_append_drop]
    rw [setRow_self w g cur.toArray t fr hg]
    rfl
  | v :: rest, i, cur, w, hg, hl, h1 => by
    obtain ⟨t, fr, hg, hf⟩ := hg
    have hi : o + i < cur.length := by simp at hl; omega
    have hcell : w.cell? ⟨g, o + i, none⟩ = some cur[o + i] := by simp [World.cell?, hg, hi]
    have hfro : w.frozen? ⟨g, o + i, none⟩ = false := by
      simp only [World.frozen?, hg]
      rcases hf with hf | hf <;> simp <;> omega
    have hst : (store ((⟨g, o, none⟩ : Addr).add i) v).run P w = .ok () (w.setRow g (cur.set (o + i) v).toArray) := by
      rw [addr_add, run_store P w _ v _ (h1 v (by simp)), hcell]
      simp [hfro, setCell_eq_setRow w g (o + i) cur.toArray t fr v hg]
    have ih := run_storeCells_has g o rest (i + 1) (cur.set (o + i) v) (w.setRow g (cur.set (o + i) v).toArray) ⟨t, fr, setRow_heap w g cur.toArray _ t _ hg, by simpa using hf⟩ (by simp at hl ⊢; omega) (fun x hx => h1 x (by simp [hx]))
    simp only [storeCells, Sem.run_bind, hst, Result.andThen_ok, ih, setRow_setRow]
    congr 3
    have e := list_seg_step cur (o + i) v rest (by simp at hl ⊢; omega)
    simpa [Nat.add_assoc] using e
theorem Has.setRow {w : World} {g : Nat} {cur : List Value} (h : Has w g cur) (cs : List Value) (hl : cs.length = cur.length) : Has (w.setRow g cs.toArray) g cs := by
  obtain ⟨t, fr, h1, h2⟩ := h
  exact ⟨t, fr, setRow_heap w g cur.toArray _ t fr h1, by rw [hl]; exact h2⟩
theorem Fr.setRow {ρ : Rho} {ks : List Nat} {w : World} {k : Nat} {l : Loc} (hk : k ∈ ks) (hl : ρ k = some l) (hc : l.c ≠ 0) (cs : Array Value) : Fr ρ ks w (w.setRow l.b cs) :=
  ⟨rfl, rfl, rfl, by simp, fun b _ hb => setRow_other w l.b b cs fun e => hb k hk l hl hc e.symm⟩
/-- Cells put from a place on. -/
def putAt {α : Type} (cs : List α) (off : Nat) (vs : List α) : List α := match vs with
  | [v] => cs.set off v
  | vs => cs.take off ++ vs ++ cs.drop (off + vs.length)
theorem putAt_eq {α : Type} (cs : List α) (off : Nat) (vs : List α) (h : off + vs.length ≤ cs.length) : putAt cs off vs = cs.take off ++ vs ++ cs.drop (off + vs.length) := by
  unfold putAt
  split
  · rename_i v
    simp only [List.length_cons, List.length_nil, Nat.zero_add] at h ⊢
    rw [List.set_eq_take_append_cons_drop, if_pos (by omega)]
    simp
  · rfl
theorem length_putAt {α : Type} (cs : List α) (off : Nat) (vs : List α) (h : off + vs.length ≤ cs.length) : (putAt cs off vs).length = cs.length := by
  rw [putAt_eq cs off vs h]; simp; omega
def AV.cellsA : AV → Option (List AV)
  | .ex v => some (v.cells.toList.map .ex)
  | .agg l => some l
  | .tup _ | .j => none
  | x => some [x]
def AV.oneA : AV → List Value
  | .ex v => v.cells.toList
  | .agg l => l.map fun | .ex v => v | .agg _ | .tup _ | .j => .tuple #[] | _ => .bool true
  | _ => []
def evStore (P : Program) (ev : Operand → AV) (m : Nat → Option Blk) (t : TypeId) (x y : Operand) : Option (Res × List Ob) :=
  match ev x, aggT P t with
  | .p k off, some (_, n) => match m k, ev y with
    | some (.own cs), .ex v => some ({ val := .j, upd := [(k, .own (putAt cs off v.cells.toList))], wks := [k], rd := [k] }, [.le (off + n) cs.length, .le v.cells.toList.length n, .le n v.cells.toList.length, .one v.cells.toList])
    | some (.row cs), .ex v => some ({ val := .j, upd := [(k, .row (putAt cs off v.cells.toList))], wks := [k], rd := [k] }, [.le (off + n) cs.length, .le v.cells.toList.length n, .le n v.cells.toList.length, .one v.cells.toList])
    | some (.mix cs), y => match y.cellsA with
      | some ys => some ({ val := .j, upd := [(k, .mix (putAt cs off ys))], wks := [k], rd := [k] }, [.le (off + n) cs.length, .le ys.length n, .le n ys.length, .one y.oneA])
      | none => none
    | some (.own cs), y => match y.cellsA with
      | some ys => some ({ val := .j, upd := [(k, .mix (putAt (cs.map .ex) off ys))], wks := [k], rd := [k] }, [.le (off + n) (cs.map AV.ex).length, .le ys.length n, .le n ys.length, .one y.oneA])
      | none => none
    | _, _ => none
  | _, _ => none
theorem exec_store (a : Act) (o : Oper) (t : TypeId) (x y : Operand) (ho : o.op = .store t x y) (w w' : World) (ad : Addr) (hx : a.eval x = .pointer (some ad)) (h : (storeVar t ad (a.eval y)).run P w = .ok () w') :
    (execOp a.eval o).run P w = .ok .skip w' := by
  simp [execOp, ho, hx, Instr.storeAt, Instr.sureAddr, h]
theorem run_storeVar_has {t : TypeId} {ag : Bool} {n : Nat} (ht : aggT P t = some (ag, n)) (w : World) (g off : Nat) (cur : List Value) (v : Value) (hg : Has w g cur) (hn : v.cells.toList.length = n) (hle : off + n ≤ cur.length) (h1 : ∀ u ∈ v.cells.toList, u.oneCell' = true) :
    (storeVar t ⟨g, off, none⟩ v).run P w = .ok () (w.setRow g (putAt cur off v.cells.toList).toArray) := by
  have := run_storeCells_has (P := P) g off v.cells.toList 0 cur w hg (by omega) h1
  rw [putAt_eq _ _ _ (by omega)]
  have hsz : v.cells.size = n := by rw [← hn]; simp
  simp only [storeVar, Sem.run_bind, run_sizeOf ht, Result.andThen_ok, hsz, ne_eq, not_true_eq_false, if_false]
  simpa using this
theorem rel_cells {ρ : Rho} {x : AV} {v : Value} {ys : List AV} (h : Rel ρ x v) (hy : x.cellsA = some ys) : RelL ρ ys v.cells.toList := by
  have one : ∀ (x : AV) (v : Value), Rel ρ x v → v.cells = #[v] → RelL ρ [x] v.cells.toList := fun x v hr e => by
    rw [e]
    exact ⟨rfl, fun i x' v' h1 h2 => by
      cases i with
      | zero => simp at h1 h2; subst h1 h2; exact hr
      | succ i => simp at h1⟩
  cases h with
  | ex v =>
    cases hy
    exact ⟨by simp, fun i x' v' h1 h2 => by
      rw [List.getElem?_map, h2] at h1
      cases h1; exact .ex _⟩
  | p e => cases hy; exact one _ _ (.p e) rfl
  | s e => cases hy; exact one _ _ (.s e) rfl
  | sn => cases hy; exact one _ _ .sn rfl
  | sv e c => cases hy; exact one _ _ (.sv e c) rfl
  | svn => cases hy; exact one _ _ .svn rfl
  | o e d c => cases hy; exact one _ _ (.o e d c) rfl
  | on e c => cases hy; exact one _ _ (.on e c) rfl
  | f e c => cases hy; exact one _ _ (.f e c) rfl
  | agg e c => cases hy; exact ⟨by simpa [Value.cells] using e, by simpa [Value.cells] using c⟩
  | tup e c => cases hy
  | j v => cases hy
theorem RelL.put {ρ : Rho} {l ys : List AV} {vs us : List Value} (h : RelL ρ l vs) (h' : RelL ρ ys us) (off : Nat) (hle : off + ys.length ≤ l.length) : RelL ρ (putAt l off ys) (putAt vs off us) := by
  have e1 := h.1
  have e2 := h'.1
  refine ⟨by rw [length_putAt _ _ _ hle, length_putAt _ _ _ (by omega)]; exact e1, fun i x v h1 h2 => ?_⟩
  rw [putAt_eq _ _ _ hle] at h1
  rw [putAt_eq _ _ _ (by omega)] at h2
  have l1 : (List.take off l).length = off := by simp; omega
  have l2 : (List.take off vs).length = off := by simp; omega
  rcases Nat.lt_or_ge i off with hi | hi
  · rw [List.append_assoc, List.getElem?_append_left (by omega), List.getElem?_take, if_pos hi] at h1 h2
    exact h.2 i x v h1 h2
  · rw [List.append_assoc, List.getElem?_append_right (by omega), l1] at h1
    rw [List.append_assoc, List.getElem?_append_right (by omega), l2] at h2
    rcases Nat.lt_or_ge (i - off) ys.length with hj | hj
    · rw [List.getElem?_append_left (by omega)] at h1 h2
      exact h'.2 (i - off) x v h1 h2
    · rw [List.getElem?_append_right (by omega), List.getElem?_drop] at h1 h2
      rw [← e2] at h2
      exact h.2 _ x v h1 h2
theorem one_of_rel {ρ : Rho} {x : AV} {v : Value} {ys : List AV} (h : Rel ρ x v) (hy : x.cellsA = some ys) (h1 : x.oneA.all (·.oneCell') = true) : ∀ u ∈ v.cells.toList, u.oneCell' = true := by
  cases h with
  | ex v => exact fun u hu => List.all_eq_true.1 h1 u hu
  | p e => intro u hu; simp [Value.cells] at hu; subst hu; rfl
  | s e => intro u hu; simp [Value.cells] at hu; subst hu; rfl
  | sn => intro u hu; simp [Value.cells] at hu; subst hu; rfl
  | sv e c => intro u hu; simp [Value.cells] at hu; subst hu; rfl
  | svn => intro u hu; simp [Value.cells] at hu; subst hu; rfl
  | o e d c => intro u hu; simp [Value.cells] at hu; subst hu; rfl
  | on e c => intro u hu; simp [Value.cells] at hu; subst hu; rfl
  | f e c => intro u hu; simp [Value.cells] at hu; subst hu; rfl
  | agg e c =>
    rename_i l vs
    intro u hu
    simp only [Value.cells] at hu
    obtain ⟨i, hi, rfl⟩ := List.getElem_of_mem hu
    have hil : i < l.length := by rw [e]; exact hi
    have hi' : i < vs.length := hi
    have hr := c i l[i] vs[i] (by simp [hil]) (by simp [hi'])
    have hx := List.all_eq_true.1 h1 _ (List.mem_map.2 ⟨l[i], by simp, rfl⟩)
    show (vs[i]).oneCell' = true
    generalize l[i] = y at hr hx
    generalize vs[i] = u at hr
    cases hr <;> first | rfl | exact hx | (simp [Value.oneCell'] at hx)
  | tup e c => cases hy
  | j v => cases hy
theorem evStore_ok {ev : Operand → AV} {m : Nat → Option Blk} {o : Oper} {t : TypeId} {x y : Operand} {r : Res} {obs : List Ob} (ho : o.op = .store t x y) (h : evStore P ev m t x y = some (r, obs)) (hb : AllOb P obs) : OpOK0 P G o ev m r := by
  have hx : x ∈ o.op.operands := by rw [ho]; simp [Op.operands]
  have hy : y ∈ o.op.operands := by rw [ho]; simp [Op.operands]
  unfold evStore at h
  split at h
  · rename_i k off ag n he ht
    have common : ∀ (ρ : Rho) (a : Act), Rel ρ (ev x) (a.eval x) → ∃ l, ρ k = some l ∧ a.eval x = .pointer (some ⟨l.b, l.d + off, none⟩) := fun ρ a hr => by
      rw [he] at hr
      generalize a.eval x = u at hr
      cases hr with
      | p e => exact ⟨_, e, rfl⟩
    split at h
    · rename_i cs v hm hv
      cases h
      obtain ⟨h1, h2, h3, h4, _⟩ := hb
      have h1 : off + n ≤ cs.length := h1
      have h2 : v.cells.toList.length ≤ n := h2
      have h3 : n ≤ v.cells.toList.length := h3
      refine OpOK0.of_run fun ρ a w g1 g2 _ => ?_
      obtain ⟨l, hl, e⟩ := common ρ a (g1 x hx)
      have ey := g1 y hy
      rw [hv] at ey
      have ey : a.eval y = v := by generalize a.eval y = u at ey; cases ey; rfl
      obtain ⟨l', f1, f2, f3, f4⟩ := g2 k (by simp) _ hm
      rw [hl] at f1; cases f1
      rw [f2, Nat.zero_add] at e
      have hst := run_storeVar_has (P := P) ht w l.b off cs v f4 (by omega) h1 (fun u hu => List.all_eq_true.1 h4 u hu)
      refine ⟨undef, _, ρ, .inr ⟨exec_store a o t x y ho w _ _ e (by rw [ey]; exact hst), rfl⟩, Rho.le_refl _, fun _ _ => rfl, .j _, fun k' b' hm' => ?_, Fr.setRow (by simp) hl f3 _, (fun _ hm => nomatch hm), (fun _ hm => nomatch hm)⟩
      simp at hm'; obtain ⟨rfl, rfl⟩ := hm'
      exact ⟨l, hl, f2, f3, f4.setRow _ (length_putAt _ _ _ (by omega))⟩
    · rename_i cs v hm hv
      cases h
      obtain ⟨h1, h2, h3, h4, _⟩ := hb
      have h1 : off + n ≤ cs.length := h1
      have h2 : v.cells.toList.length ≤ n := h2
      have h3 : n ≤ v.cells.toList.length := h3
      refine OpOK0.of_run fun ρ a w g1 g2 _ => ?_
      obtain ⟨l, hl, e⟩ := common ρ a (g1 x hx)
      have ey := g1 y hy
      rw [hv] at ey
      have ey : a.eval y = v := by generalize a.eval y = u at ey; cases ey; rfl
      obtain ⟨l', f1, f2, f3⟩ := g2 k (by simp) _ hm
      rw [hl] at f1; cases f1
      rw [f2, Nat.zero_add] at e
      rcases f3 with ⟨_, rfl⟩ | ⟨f3, rest, f4, f5⟩
      · simp at h1
        have e0 : off = 0 := by omega
        have n0 : v.cells.toList = [] := List.length_eq_zero_iff.1 (by omega)
        refine ⟨undef, w, ρ, .inr ⟨exec_store a o t x y ho w _ _ e ?_, rfl⟩, Rho.le_refl _, fun _ _ => rfl, .j _, fun k' b' hm' => ?_, Fr.refl _ _ _, (fun _ hm => nomatch hm), (fun _ hm => nomatch hm)⟩
        · rw [ey]
          have hsz : v.cells.size = n := by rw [← Array.length_toList]; omega
          simp only [storeVar, Sem.run_bind, run_sizeOf ht, Result.andThen_ok, hsz, ne_eq, not_true_eq_false, if_false]
          rw [n0]; rfl
        · simp at hm'; obtain ⟨rfl, rfl⟩ := hm'
          rw [n0, e0]
          exact g2 _ (by simp) _ hm
      · have hst := run_storeVar_has (P := P) ht w l.b off (cs ++ rest) v f4 (by omega) (by rw [List.length_append]; omega) (fun u hu => List.all_eq_true.1 h4 u hu)
        have hput : putAt (cs ++ rest) off v.cells.toList = putAt cs off v.cells.toList ++ rest := by
          rw [putAt_eq _ _ _ (by rw [List.length_append]; omega), putAt_eq _ _ _ (by omega), List.take_append_of_le_length (by omega), List.drop_append_of_le_length (by omega)]
          simp
        rw [hput] at hst
        refine ⟨undef, _, ρ, .inr ⟨exec_store a o t x y ho w _ _ e (by rw [ey]; exact hst), rfl⟩, Rho.le_refl _, fun _ _ => rfl, .j _, fun k' b' hm' => ?_, Fr.setRow (by simp) hl f3 _, (fun _ hm => nomatch hm), (fun _ hm => nomatch hm)⟩
        simp at hm'; obtain ⟨rfl, rfl⟩ := hm'
        have hlen := length_putAt cs off v.cells.toList (by omega)
        exact ⟨l, hl, f2, .inr ⟨f3, rest, f4.setRow _ (by simp [hlen]), by simp [hlen]; simpa using f5⟩⟩
    · rename_i cs hm
      split at h
      · rename_i ys hys
        cases h
        obtain ⟨h1, h2, h3, h4, _⟩ := hb
        have h1 : off + n ≤ cs.length := h1
        have h2 : ys.length ≤ n := h2
        have h3 : n ≤ ys.length := h3
        refine OpOK0.of_run fun ρ a w g1 g2 _ => ?_
        obtain ⟨l, hl, e⟩ := common ρ a (g1 x hx)
        have ey := g1 y hy
        have hrc := rel_cells ey hys
        obtain ⟨l', vs, f1, f2, f3, f4, f5⟩ := g2 k (by simp) _ hm
        rw [hl] at f1; cases f1
        rw [f2, Nat.zero_add] at e
        have hl1 := hrc.1
        have hl2 := f5.1
        have hst := run_storeVar_has (P := P) ht w l.b off vs (a.eval y) f4 (by omega) (by omega) (one_of_rel ey hys h4)
        refine ⟨undef, _, ρ, .inr ⟨exec_store a o t x y ho w _ _ e hst, rfl⟩, Rho.le_refl _, fun _ _ => rfl, .j _, fun k' b' hm' => ?_, Fr.setRow (by simp) hl f3 _, (fun _ hm => nomatch hm), (fun _ hm => nomatch hm)⟩
        simp at hm'; obtain ⟨rfl, rfl⟩ := hm'
        exact ⟨l, _, hl, f2, f3, f4.setRow _ (length_putAt _ _ _ (by omega)), f5.put hrc off (by omega)⟩
      · cases h
    · rename_i cs hm _
      split at h
      · rename_i ys hys
        cases h
        obtain ⟨h1, h2, h3, h4, _⟩ := hb
        have h1 : off + n ≤ (cs.map AV.ex).length := h1
        have h2 : ys.length ≤ n := h2
        have h3 : n ≤ ys.length := h3
        refine OpOK0.of_run fun ρ a w g1 g2 _ => ?_
        obtain ⟨l, hl, e⟩ := common ρ a (g1 x hx)
        have ey := g1 y hy
        have hrc := rel_cells ey hys
        obtain ⟨l', f1, f2, f3, f4⟩ := g2 k (by simp) _ hm
        have f5 : RelL ρ (cs.map AV.ex) cs := ⟨by simp, fun i x v h1 h2 => by
          rw [List.getElem?_map, h2] at h1
          cases h1; exact .ex _⟩
        rw [hl] at f1; cases f1
        rw [f2, Nat.zero_add] at e
        have hl1 := hrc.1
        have hl2 := f5.1
        have hst := run_storeVar_has (P := P) ht w l.b off cs (a.eval y) f4 (by omega) (by omega) (one_of_rel ey hys h4)
        refine ⟨undef, _, ρ, .inr ⟨exec_store a o t x y ho w _ _ e hst, rfl⟩, Rho.le_refl _, fun _ _ => rfl, .j _, fun k' b' hm' => ?_, Fr.setRow (by simp) hl f3 _, (fun _ hm => nomatch hm), (fun _ hm => nomatch hm)⟩
        simp at hm'; obtain ⟨rfl, rfl⟩ := hm'
        exact ⟨l, _, hl, f2, f3, f4.setRow _ (length_putAt _ _ _ (by omega)), f5.put hrc off (by omega)⟩
      · cases h
    · cases h
  · cases h
end

section
variable {P : Program} {G : Nat → Option Nat}
def zeroC (P : Program) (t : TypeId) : Option Value := match P.info? t with
  | some i => i.zero
  | none => none
theorem run_zeroValue {t : TypeId} {v : Value} (h : zeroC P t = some v) (w : World) : (zeroValue t).run P w = .ok v w := by
  unfold zeroC at h
  split at h
  · rename_i i hi
    simp [zeroValue, typeInfo, hi, h]
  · cases h
def evAlloc (P : Program) (nk : Nat) (t : TypeId) : Option (Res × List Ob) :=
  match zeroC P t with
  | some v => some ({ val := .p nk 0, upd := [(nk, .own v.cells.toList)], nks := [nk] }, [])
  | none => none
theorem evAlloc_ok {ev : Operand → AV} {m : Nat → Option Blk} {o : Oper} {nk : Nat} {t : TypeId} {r : Res} {obs : List Ob} (ho : o.op = .alloc t) (h : evAlloc P nk t = some (r, obs)) : OpOK0 P G o ev m r := by
  unfold evAlloc at h
  split at h
  · rename_i v hv
    cases h
    refine OpOK0.of_run fun ρ a w _ _ g3 => ?_
    refine ⟨.pointer (some ⟨w.heap.size, 0, none⟩), w.alloc (.cells v.cells t), ρ.add nk ⟨w.heap.size, 0, 1⟩, .inl ?_, StepOf.fresh _ (g3 nk (by simp)) rfl rfl ?_ ?_⟩
    · simp [execOp, ho, Instr.alloc, run_zeroValue hv, newVar, newRow, newObj, Sem.run]
    · exact .p (Rho.add_same _ _ _)
    · have := Has.alloc w v.cells.toList t
      exact ⟨_, Rho.add_same _ _ _, rfl, by simp, this⟩
  · cases h
def evBox (nk : Nat) (x : AV) : Option (Res × List Ob) :=
  match x with
  | .ex v => some ({ val := .p nk 0, upd := [(nk, .own v.cells.toList)], nks := [nk] }, [])
  | x => match x.cellsA with
    | some ys => some ({ val := .p nk 0, upd := [(nk, .mix ys)], nks := [nk] }, [])
    | none => none
theorem evBox_ok {ev : Operand → AV} {m : Nat → Option Blk} {o : Oper} {nk : Nat} {t : TypeId} {x : Operand} {r : Res} {obs : List Ob} (ho : o.op = .box t x) (h : evBox nk (ev x) = some (r, obs)) : OpOK0 P G o ev m r := by
  have hx : x ∈ o.op.operands := by rw [ho]; simp [Op.operands]
  have run : ∀ (a : Act) (w : World), (execOp a.eval o).run P w = .ok (.value (.pointer (some ⟨w.heap.size, 0, none⟩))) (w.alloc (.cells (a.eval x).cells t)) := fun a w => by
    simp [execOp, ho, run_box]
  unfold evBox at h
  split at h
  · rename_i v hv
    cases h
    refine OpOK0.of_run fun ρ a w g1 _ g3 => ?_
    have ev := g1 x hx
    rw [hv] at ev
    have ev : a.eval x = v := by generalize a.eval x = u at ev; cases ev; rfl
    refine ⟨_, _, ρ.add nk ⟨w.heap.size, 0, 1⟩, .inl (run a w), StepOf.fresh _ (g3 nk (by simp)) rfl rfl (.p (Rho.add_same _ _ _)) ?_⟩
    rw [ev]
    exact ⟨_, Rho.add_same _ _ _, rfl, by simp, Has.alloc w v.cells.toList t⟩
  · split at h
    · rename_i ys hys
      cases h
      refine OpOK0.of_run fun ρ a w g1 _ g3 => ?_
      refine ⟨_, _, ρ.add nk ⟨w.heap.size, 0, 1⟩, .inl (run a w), StepOf.fresh _ (g3 nk (by simp)) rfl rfl (.p (Rho.add_same _ _ _)) ?_⟩
      exact ⟨_, _, Rho.add_same _ _ _, rfl, by simp, Has.alloc w (a.eval x).cells.toList t, (rel_cells (g1 x hx) hys).mono (Rho.le_add (g3 nk (by simp)))⟩
    · cases h

/-! addresses -/
def intA : AV → Option Int
  | .ex (.int _ i) => some i
  | _ => none
theorem intA_rel {ρ : Rho} {x : AV} {v : Value} {i : Int} (h : intA x = some i) (hr : Rel ρ x v) : ∃ k, v = .int k i := by
  unfold intA at h
  split at h
  · cases h; cases hr; exact ⟨_, rfl⟩
  · cases h
/-- What an index may run over. -/
def spanA (P : Program) (t : TypeId) (x : AV) : Option (Nat × Nat × Nat × TypeId) :=
  match P.underlying t, x with
  | some (.array n e), .p k off => some (k, off, n, e)
  | some (.slice e), .s k off n _ => some (k, off, n, e)
  | some (.slice e), .o k off n => some (k, off, n, e)
  | some (.slice e), .sv k off n => some (k, off, n, e)
  | _, _ => none
def evIndexAddr (P : Program) (ev : Operand → AV) (t : TypeId) (x y : Operand) : Option (Res × List Ob) :=
  match spanA P t (ev x), intA (ev y) with
  | some (k, off, n, e), some i => match P.info? e with
    | some info => some ({ val := .p k (off + i.toNat * info.size) }, [.ix i n])
    | none => none
  | _, _ => none
theorem evIndexAddr_ok {ev : Operand → AV} {m : Nat → Option Blk} {o : Oper} {t : TypeId} {x y : Operand} {r : Res} {obs : List Ob} (ho : o.op = .indexAddr t x y) (h : evIndexAddr P ev t x y = some (r, obs)) (hb : AllOb P obs) : OpOK0 P G o ev m r := by
  have hx : x ∈ o.op.operands := by rw [ho]; simp [Op.operands]
  have hy : y ∈ o.op.operands := by rw [ho]; simp [Op.operands]
  unfold evIndexAddr at h
  split at h
  · rename_i k off n e i hs hi
    split at h
    · rename_i info hinfo
      cases h
      obtain ⟨⟨b1, b2⟩, _⟩ := hb
      refine OpOK0.of_run fun ρ a w g1 _ _ => ?_
      obtain ⟨kd, ei⟩ := intA_rel hi (g1 y hy)
      have hsz : (sizeOf e).run P w = .ok info.size w := by simp [sizeOf, typeInfo, hinfo]
      have rx := g1 x hx
      unfold spanA at hs
      split at hs
      · rename_i n' e' k' off' hu hxx
        cases hs
        rw [hxx] at rx
        generalize hax : a.eval x = u at rx
        cases rx with
        | p el =>
          rename_i l
          refine ⟨.pointer (some ⟨l.b, l.d + (off + i.toNat * info.size), none⟩), w, ρ, .inl ?_, StepOf.plain (.p el)⟩
          simp [execOp, ho, hax, ei, Instr.indexAt, asIntOf, run_underlying hu, Instr.sureAddr, b1, b2, hsz, addr_add, Nat.add_assoc]
      · rename_i e' k' off' n' c hu hxx
        cases hs
        rw [hxx] at rx
        generalize hax : a.eval x = u at rx
        cases rx with
        | s el =>
          rename_i l
          refine ⟨.pointer (some ⟨l.b, l.d + (off + i.toNat * info.size), none⟩), w, ρ, .inl ?_, StepOf.plain (.p el)⟩
          simp [execOp, ho, hax, ei, Instr.indexAt, asIntOf, run_underlying hu, b1, b2, hsz, addr_add, Nat.add_assoc]
        | sn => simp at b2; omega
      · rename_i e' k' off' n' hu hxx
        cases hs
        rw [hxx] at rx
        generalize hax : a.eval x = u at rx
        cases rx with
        | o el hd hc =>
          rename_i l
          refine ⟨.pointer (some ⟨l.b, l.d + (off + i.toNat * info.size), none⟩), w, ρ, .inl ?_, StepOf.plain (.p el)⟩
          simp [execOp, ho, hax, ei, Instr.indexAt, asIntOf, run_underlying hu, b1, b2, hsz, addr_add, hd]
        | on el hc => simp at b2; omega
      · rename_i e' k' off' n' hu hxx
        cases hs
        rw [hxx] at rx
        generalize hax : a.eval x = u at rx
        cases rx with
        | sv el hc =>
          rename_i l
          refine ⟨.pointer (some ⟨l.b, l.d + (off + i.toNat * info.size), none⟩), w, ρ, .inl ?_, StepOf.plain (.p el)⟩
          simp [execOp, ho, hax, ei, Instr.indexAt, asIntOf, run_underlying hu, b1, b2, hsz, addr_add, Nat.add_assoc]
        | svn => simp at b2; omega
      · cases hs
    · cases h
  · cases h
def evFieldAddr (P : Program) (ev : Operand → AV) (s : TypeId) (x : Operand) (fi : Nat) : Option (Res × List Ob) :=
  match ev x, P.underlying s with
  | .p k off, some (.struct fields) => match fields[fi]? with
    | some f => match P.info? f.type with
      | some info => if info.size = 0 then none else some ({ val := .p k (off + f.offset) }, [])
      | none => none
    | none => none
  | _, _ => none
theorem evFieldAddr_ok {ev : Operand → AV} {m : Nat → Option Blk} {o : Oper} {s : TypeId} {x : Operand} {fi : Nat} {r : Res} {obs : List Ob} (ho : o.op = .fieldAddr s x fi) (h : evFieldAddr P ev s x fi = some (r, obs)) : OpOK0 P G o ev m r := by
  have hx : x ∈ o.op.operands := by rw [ho]; simp [Op.operands]
  unfold evFieldAddr at h
  split at h
  · rename_i k off fields he hu
    split at h
    · rename_i f hf
      split at h
      · rename_i info hinfo
        split at h
        · cases h
        · rename_i hz
          cases h
          refine OpOK0.of_run fun ρ a w g1 _ _ => ?_
          have rx := g1 x hx
          rw [he] at rx
          generalize hax : a.eval x = u at rx
          cases rx with
          | p el =>
            rename_i l
            refine ⟨.pointer (some ⟨l.b, l.d + (off + f.offset), none⟩), w, ρ, .inl ?_, StepOf.plain (.p el)⟩
            simp [execOp, ho, hax, Instr.fieldAt, run_underlying hu, hf, Instr.sureAddr, fieldPlace, sizeOf, typeInfo, hinfo, hz, addr_add, Nat.add_assoc]
      · cases h
    · cases h
  · cases h

/-! slices -/
/-- A bound of a slice expression: its number. -/
def boundA (ev : Operand → AV) (d : Nat) : Option Operand → Option (Int × Nat)
  | none => some (d, d)
  | some x => match intA (ev x) with
    | some i => some (i, i.toNat)
    | none => none
def evSlice (P : Program) (ev : Operand → AV) (t : TypeId) (x : Operand) (lo hi mx : Option Operand) : Option (Res × List Ob) :=
  match mx, P.underlying t, ev x with
  | none, some (.array n e), .p k off => match boundA ev 0 lo, boundA ev n hi, P.info? e with
    | some (il, l), some (ih, h), some info => some ({ val := .s k (off + l * info.size) (h - l) (n - l) }, [.ix ih (n + 1), .ix il (h + 1)])
    | _, _, _ => none
  | none, some (.slice e), .s k off n c => match boundA ev 0 lo, boundA ev n hi, P.info? e with
    | some (il, l), some (ih, h), some info => some ({ val := .s k (off + l * info.size) (h - l) (c - l) }, [.ix ih (c + 1), .ix il (h + 1)])
    | _, _, _ => none
  | none, some (.slice e), .o k off n => match boundA ev 0 lo, boundA ev n hi, P.info? e with
    | some (il, l), some (ih, h), some info => if info.size = 1 then some ({ val := .o k (off + l) (h - l) }, [.ix ih (n + 1), .ix il (h + 1)]) else none
    | _, _, _ => none
  | none, some (.slice e), .sv k off n => match boundA ev 0 lo, boundA ev n hi, P.info? e with
    | some (il, l), some (ih, h), some info => some ({ val := .sv k (off + l * info.size) (h - l) }, [.ix ih (n + 1), .ix il (h + 1)])
    | _, _, _ => none
  | _, _, _ => none
theorem run_sliceBounds (a : Act) {ev : Operand → AV} {ρ : Rho} (isS : Bool) (len cap : Nat) (lo hi : Option Operand) (il ih : Int) (l h : Nat) (w : World)
    (hr : ∀ x, (lo = some x ∨ hi = some x) → Rel ρ (ev x) (a.eval x)) (hl : boundA ev 0 lo = some (il, l)) (hh : boundA ev len hi = some (ih, h)) (b1 : 0 ≤ ih ∧ ih < ((cap + 1 : Nat) : Int)) (b2 : 0 ≤ il ∧ il < ((h + 1 : Nat) : Int)) :
    (Instr.sliceBounds isS len cap (lo.map a.eval) (hi.map a.eval) none).run P w = .ok (l, h, cap) w ∧ l ≤ h ∧ h ≤ cap := by
  have sb : ∀ (x : Operand) (i : Int) (y : Nat) (c : BoundsCode), (∃ k, a.eval x = .int k i) → 0 ≤ i → i < ((y + 1 : Nat) : Int) → (Instr.sliceBound (a.eval x) y c).run P w = .ok i.toNat w := fun x i y c ⟨k, e⟩ h0 h1 => by
    have h2 : i ≤ y := by omega
    simp [Instr.sliceBound, e, asIntOf, h0, h2]
  have hhi : ih.toNat = h := by
    unfold boundA at hh
    split at hh
    · cases hh; simp
    · split at hh
      · cases hh; rfl
      · cases hh
  have hli : il.toNat = l := by
    unfold boundA at hl
    split at hl
    · cases hl; simp
    · split at hl
      · cases hl; rfl
      · cases hl
  refine ⟨?_, by omega, by omega⟩
  have lowpart : (match lo.map a.eval with | some v => Instr.sliceBound v h .sliceB | none => (pure 0 : Sem Nat)).run P w = .ok l w := by
    cases lo with
    | none => simp only [boundA] at hl; cases hl; rfl
    | some x =>
      simp only [boundA] at hl
      split at hl
      · rename_i i hi'
        cases hl
        exact sb x _ h _ (intA_rel hi' (hr x (.inl rfl))) b2.1 b2.2
      · cases hl
  cases hi with
  | none =>
    simp only [boundA] at hh
    cases hh
    simp only [Instr.sliceBounds, Option.map_none, Sem.run_bind, Sem.run_pure, Result.andThen_ok]
    cases lo with
    | none => simp only [boundA] at hl; cases hl; simp
    | some x => simp only [Option.map_some] at lowpart ⊢; simp [lowpart]
  | some y =>
    simp only [boundA] at hh
    split at hh
    · rename_i j hj
      cases hh
      have e := sb y _ cap (if isS then .sliceAcap else .sliceAlen) (intA_rel hj (hr y (.inr rfl))) b1.1 b1.2
      simp only [Instr.sliceBounds, Option.map_some, Sem.run_bind, Sem.run_pure, Result.andThen_ok, e]
      cases lo with
      | none => simp only [boundA] at hl; cases hl; simp
      | some x => simp only [Option.map_some] at lowpart ⊢; simp [lowpart]
    · cases hh
theorem rel_slice {ρ : Rho} {k : Nat} {lc : Loc} {off l n c sz : Nat} (hk : ρ k = some lc) (h : n ≤ c) : Rel ρ (.s k (off + l * sz) n c) (.slice (some (if c = 0 then ⟨lc.b, lc.d + off, none⟩ else ⟨lc.b, lc.d + off + l * sz, none⟩)) n c) := by
  split
  · have e1 : n = 0 := by omega
    have e2 : c = 0 := by omega
    rw [e1, e2]; exact .sn
  · rw [Nat.add_assoc]; exact .s hk
theorem evSlice_ok {ev : Operand → AV} {m : Nat → Option Blk} {o : Oper} {t : TypeId} {x : Operand} {lo hi mx : Option Operand} {r : Res} {obs : List Ob} (ho : o.op = .slice t x lo hi mx) (h : evSlice P ev t x lo hi mx = some (r, obs)) (hb : AllOb P obs) : OpOK0 P G o ev m r := by
  have hx : x ∈ o.op.operands := by rw [ho]; simp [Op.operands]
  have hbd : ∀ y, (lo = some y ∨ hi = some y) → y ∈ o.op.operands := fun y hy => by
    rw [ho]; simp only [Op.operands, Array.mem_append]
    rcases hy with rfl | rfl <;> simp
  unfold evSlice at h
  split at h
  · rename_i n e k off hu hxx
    split at h
    · rename_i il l ih hh info hl hh' hinfo
      cases h
      obtain ⟨b1, b2, _⟩ := hb
      refine OpOK0.of_run fun ρ a w g1 _ _ => ?_
      obtain ⟨hsb, c1, c2⟩ := run_sliceBounds (P := P) a false n n lo hi il ih l hh w (fun y hy => g1 y (hbd y hy)) hl hh' b1 b2
      have rx := g1 x hx
      rw [hxx] at rx
      generalize hax : a.eval x = u at rx
      cases rx with
      | p el =>
        rename_i lc
        refine ⟨_, w, ρ, .inl ?_, StepOf.plain (rel_slice (l := l) (sz := info.size) el (by omega))⟩
        have e0 : (n - l = 0) ↔ (n = l) := by omega
        simp [execOp, ho, hax, Instr.sliceAt, run_underlying hu, Instr.sureAddr, hsb, sizeOf, typeInfo, hinfo, addr_add, e0]
    · cases h
  · rename_i e k off n c hu hxx
    split at h
    · rename_i il l ih hh info hl hh' hinfo
      cases h
      obtain ⟨b1, b2, _⟩ := hb
      refine OpOK0.of_run fun ρ a w g1 _ _ => ?_
      obtain ⟨hsb, c1, c2⟩ := run_sliceBounds (P := P) a true n c lo hi il ih l hh w (fun y hy => g1 y (hbd y hy)) hl hh' b1 b2
      have rx := g1 x hx
      rw [hxx] at rx
      generalize hax : a.eval x = u at rx
      have e0 : (c - l = 0) ↔ (c = l) := by omega
      cases rx with
      | s el =>
        rename_i lc
        refine ⟨_, w, ρ, .inl ?_, StepOf.plain (rel_slice (l := l) (sz := info.size) el (by omega))⟩
        simp only [execOp, ho, hax, Instr.sliceAt, Sem.run_bind, run_underlying hu, Result.andThen_ok, Instr.slice, Option.map_none, hsb]
        simp [sizeOf, typeInfo, hinfo, addr_add, e0]
        split <;> rfl
      | @sn _ _ ad =>
        have : l = 0 := by omega
        subst this
        have : hh = 0 := by omega
        subst this
        refine ⟨.slice ad 0 0, w, ρ, .inl ?_, StepOf.plain .sn⟩
        simp only [execOp, ho, hax, Instr.sliceAt, Sem.run_bind, run_underlying hu, Result.andThen_ok, Instr.slice, Option.map_none, hsb]
        simp [sizeOf, typeInfo, hinfo]
    · cases h
  · rename_i e k off n hu hxx
    split at h
    · rename_i il l ih hh info hl hh' hinfo
      split at h
      · rename_i hsz
        cases h
        obtain ⟨b1, b2, _⟩ := hb
        have b1 : 0 ≤ ih ∧ ih < ((n + 1 : Nat) : Int) := b1
        refine OpOK0.of_run fun ρ a w g1 _ _ => ?_
        have rx := g1 x hx
        rw [hxx] at rx
        generalize hax : a.eval x = u at rx
        cases rx with
        | o el hd hc =>
          rename_i lc
          obtain ⟨hsb, c1, c2⟩ := run_sliceBounds (P := P) a true n (lc.c - off) lo hi il ih l hh w (fun y hy => g1 y (hbd y hy)) hl hh' ⟨b1.1, by omega⟩ b2
          have hn : hh ≤ n := by
            have : ih.toNat = hh := by
              unfold boundA at hh'
              split at hh'
              · cases hh'; simp
              · split at hh'
                · cases hh'; rfl
                · cases hh'
            omega
          have e0 : (lc.c - off - l = 0) ↔ (lc.c - off = l) := by omega
          refine ⟨.slice (some (if lc.c - off = l then ⟨lc.b, off, none⟩ else ⟨lc.b, off + l, none⟩)) (hh - l) (lc.c - off - l), w, ρ, .inl ?_, StepOf.plain ?_⟩
          · simp only [execOp, ho, hax, Instr.sliceAt, Sem.run_bind, run_underlying hu, Result.andThen_ok, Instr.slice, Option.map_none, hsb]
            simp [sizeOf, typeInfo, hinfo, addr_add, hsz]
            split <;> rfl
          · have e1 : lc.c - off - l = lc.c - (off + l) := by omega
            split
            · rename_i hcl
              have e2 : hh - l = 0 := by omega
              have e3 : lc.c - off - l = 0 := by omega
              rw [e2, e3]
              exact .on el (by omega)
            · rw [e1]
              exact .o el hd (by omega)
        | @on _ _ lc ad el hc =>
          have h1 : ih = 0 := by omega
          have h2 : hh = 0 := by
            have : ih.toNat = hh := by
              unfold boundA at hh'
              split at hh'
              · cases hh'; simp
              · split at hh'
                · cases hh'; rfl
                · cases hh'
            omega
          obtain ⟨hsb, c1, c2⟩ := run_sliceBounds (P := P) a true 0 0 lo hi il ih l hh w (fun y hy => g1 y (hbd y hy)) hl hh' ⟨by omega, by omega⟩ b2
          have h3 : l = 0 := by omega
          subst h2 h3
          refine ⟨.slice ad 0 0, w, ρ, .inl ?_, StepOf.plain (.on el (by omega))⟩
          simp only [execOp, ho, hax, Instr.sliceAt, Sem.run_bind, run_underlying hu, Result.andThen_ok, Instr.slice, Option.map_none, hsb]
          simp [sizeOf, typeInfo, hinfo]
      · cases h
    · cases h
  · rename_i e k off n hu hxx
    split at h
    · rename_i il l ih hh info hl hh' hinfo
      cases h
      obtain ⟨b1, b2, _⟩ := hb
      have b1 : 0 ≤ ih ∧ ih < ((n + 1 : Nat) : Int) := b1
      have b2 : 0 ≤ il ∧ il < ((hh + 1 : Nat) : Int) := b2
      have hhe : ih.toNat = hh := by
        unfold boundA at hh'
        split at hh'
        · cases hh'; simp
        · split at hh'
          · cases hh'; rfl
          · cases hh'
      refine OpOK0.of_run fun ρ a w g1 _ _ => ?_
      have rx := g1 x hx
      rw [hxx] at rx
      generalize hax : a.eval x = u at rx
      cases rx with
      | @sv _ _ _ c lc el hc =>
        obtain ⟨hsb, c1, c2⟩ := run_sliceBounds (P := P) a true n c lo hi il ih l hh w (fun y hy => g1 y (hbd y hy)) hl hh' ⟨b1.1, by omega⟩ b2
        have e0 : (c - l = 0) ↔ (c = l) := by omega
        refine ⟨.slice (some (if c = l then ⟨lc.b, lc.d + off, none⟩ else ⟨lc.b, lc.d + off + l * info.size, none⟩)) (hh - l) (c - l), w, ρ, .inl ?_, StepOf.plain ?_⟩
        · simp only [execOp, ho, hax, Instr.sliceAt, Sem.run_bind, run_underlying hu, Result.andThen_ok, Instr.slice, Option.map_none, hsb]
          simp [sizeOf, typeInfo, hinfo, addr_add]
          split <;> rfl
        · by_cases hcl : c = l
          · rw [if_pos hcl]
            have e2 : hh - l = 0 := by omega
            rw [e2]; exact .svn
          · rw [if_neg hcl, Nat.add_assoc]; exact .sv el (by omega)
      | @svn _ _ c ad =>
        have h2 : hh = 0 := by omega
        obtain ⟨hsb, c1, c2⟩ := run_sliceBounds (P := P) a true 0 c lo hi il ih l hh w (fun y hy => g1 y (hbd y hy)) hl hh' ⟨b1.1, by omega⟩ b2
        have h3 : l = 0 := by omega
        subst h2 h3
        refine ⟨.slice ad 0 c, w, ρ, .inl ?_, StepOf.plain .svn⟩
        simp only [execOp, ho, hax, Instr.sliceAt, Sem.run_bind, run_underlying hu, Result.andThen_ok, Instr.slice, Option.map_none, hsb]
        cases ad <;> simp [sizeOf, typeInfo, hinfo, Addr.add]
    · cases h
  · cases h
end

section
variable {P : Program} {G : Nat → Option Nat}
def evMakeSlice (P : Program) (ev : Operand → AV) (nk : Nat) (t : TypeId) (x y : Operand) : Option (Res × List Ob) :=
  match P.underlying t, intA (ev x), intA (ev y) with
  | some (.slice e), some l, some c => match P.info? e with
    | some i => match i.zero with
      | some z => if i.size = 1 ∧ z.oneCell' = true then some ({ val := .s nk 0 l.toNat c.toNat, upd := [(nk, .own (List.replicate c.toNat z))], nks := [nk] }, [.ix l (c.toNat + 1), .ix c 9223372036854775808, .le (i.bytes * c.toNat) 281474976710656]) else none
      | none => none
    | none => none
  | _, _, _ => none
theorem cells_one {z : Value} (h : z.oneCell' = true) : z.cells = #[z] := by cases z <;> first | rfl | simp [Value.oneCell'] at h
theorem evMakeSlice_ok {ev : Operand → AV} {m : Nat → Option Blk} {o : Oper} {nk : Nat} {t : TypeId} {x y : Operand} {r : Res} {obs : List Ob} (ho : o.op = .makeSlice t x y) (h : evMakeSlice P ev nk t x y = some (r, obs)) (hb : AllOb P obs) : OpOK0 P G o ev m r := by
  have hx : x ∈ o.op.operands := by rw [ho]; simp [Op.operands]
  have hy : y ∈ o.op.operands := by rw [ho]; simp [Op.operands]
  unfold evMakeSlice at h
  split at h
  · rename_i e l c hu hl hc
    split at h
    · rename_i i hi
      split at h
      · rename_i z hz
        split at h
        · rename_i hs
          cases h
          obtain ⟨b1, b2, b3, _⟩ := hb
          have b1 : 0 ≤ l ∧ l < ((c.toNat + 1 : Nat) : Int) := b1
          have b2 : 0 ≤ c ∧ c < ((9223372036854775808 : Nat) : Int) := b2
          have b3 : i.bytes * c.toNat ≤ 281474976710656 := b3
          refine OpOK0.of_run fun ρ a w g1 _ g3 => ?_
          obtain ⟨kl, el⟩ := intA_rel hl (g1 x hx)
          obtain ⟨kc, ec⟩ := intA_rel hc (g1 y hy)
          have hbytes : (i.bytes : Int) * c ≤ 281474976710656 := by
            have e : c = (c.toNat : Int) := by omega
            rw [e, ← Int.natCast_mul]; omega
          have hr := run_make (P := P) w t e i z hu hi hz kl kc l c b1.1 (by omega) hbytes (by omega)
          have hmc : madeCells z.cells (c.toNat * i.size) = (List.replicate c.toNat z).toArray := by
            rw [hs.1, Nat.mul_one, cells_one hs.2]
            apply Array.ext'
            rw [toList_madeCells_one]
          rw [hmc] at hr
          refine ⟨_, _, ρ.add nk ⟨w.heap.size, 0, 1⟩, .inl (by simp [execOp, ho, el, ec, hr]; exact ⟨rfl, rfl⟩), StepOf.fresh _ (g3 nk (by simp)) rfl rfl ?_ ?_⟩
          · exact .s (off := 0) (Rho.add_same _ _ _)
          · exact ⟨_, Rho.add_same _ _ _, rfl, by simp, Has.alloc w _ e⟩
        · cases h
      · cases h
    · cases h
  · cases h

/-! what is copied, appended, told as a string -/
def srcA (m : Nat → Option Blk) : AV → Option (List Nat × List Value × List Ob)
  | .s k off n _ => match m k with
    | some b => match b.cells with
      | some cs => some ([k], (cs.drop off).take n, [.le (off + n) cs.length])
      | none => match b.mixed with
        | some cs => match exAll ((cs.drop off).take n) with
          | some xs => some ([k], xs, [.le (off + n) cs.length])
          | none => none
        | none => none
    | none => none
  | .o k off n => match m k with
    | some b => match b.cells with
      | some cs => some ([k], (cs.drop off).take n, [.le (off + n) cs.length])
      | none => none
    | none => none
  | .sv k off n => match m k with
    | some b => match b.cells with
      | some cs => some ([k], (cs.drop off).take n, [.le (off + n) cs.length])
      | none => none
    | none => none
  | .ex (.string s) => some ([], byteCells s, [])
  | .ex (.slice none 0 0) => some ([], [], [])
  | _ => none
/-- How a source lies: an address with cells, or nothing at all, or a string. -/
theorem srcA_rel {ρ : Rho} {w : World} {m : Nat → Option Blk} {x : AV} {v : Value} {rd : List Nat} {xs : List Value} {obs : List Ob} (h : srcA m x = some (rd, xs, obs)) (hr : Rel ρ x v) (hm : ∀ k ∈ rd, ∀ b, m k = some b → BRel ρ w k b) (hb : AllOb P obs) :
    (∃ a n c, v = .slice a n c ∧ n = xs.length ∧ (n = 0 ∨ ∃ ad, a = some ad ∧ ∀ j u, xs[j]? = some u → w.cell? (ad.add j) = some u)) ∨ (∃ s, v = .string s ∧ xs = byteCells s) := by
  unfold srcA at h
  split at h
  · rename_i k off n c
    split at h
    · rename_i b hk
      split at h
      · rename_i cs hcs
        cases h
        obtain ⟨b1, _⟩ := hb
        have b1 : off + n ≤ cs.length := b1
        have hbr := hm k (by simp) b hk
        refine .inl ?_
        cases hr with
        | s el =>
          rename_i l
          refine ⟨_, _, _, rfl, by simp; omega, .inr ⟨_, rfl, fun j u hj => ?_⟩⟩
          rw [addr_add, Nat.add_assoc]
          exact hbr.cell hcs el (cut_get hj)
        | sn => exact ⟨_, _, _, rfl, by simp, .inl rfl⟩
      · split at h
        · rename_i cs hcs
          split at h
          · rename_i xs hxs
            cases h
            obtain ⟨b1, _⟩ := hb
            have b1 : off + n ≤ cs.length := b1
            have hbr := hm k (by simp) b hk
            refine .inl ?_
            cases hr with
            | s el =>
              rename_i l
              obtain ⟨us, hus, hcell⟩ := hbr.mixed hcs el
              have hcut := exAll_rel hxs (hus.cut off n)
              have hul := hus.1
              refine ⟨_, _, _, rfl, by rw [← hcut]; simp; omega, .inr ⟨_, rfl, fun j u hj => ?_⟩⟩
              rw [addr_add, Nat.add_assoc]
              rw [← hcut] at hj
              exact hcell _ _ (cut_get hj)
            | sn =>
              simp [exAll] at hxs
              subst hxs
              exact ⟨_, _, _, rfl, rfl, .inl rfl⟩
          · cases h
        · cases h
    · cases h
  · rename_i k off n
    split at h
    · rename_i b hk
      split at h
      · rename_i cs hcs
        cases h
        obtain ⟨b1, _⟩ := hb
        have b1 : off + n ≤ cs.length := b1
        have hbr := hm k (by simp) b hk
        refine .inl ?_
        cases hr with
        | o el hd hc =>
          rename_i l
          refine ⟨_, _, _, rfl, by simp; omega, .inr ⟨_, rfl, fun j u hj => ?_⟩⟩
          rw [addr_add]
          have := hbr.cell hcs el (cut_get hj)
          rwa [hd, Nat.zero_add] at this
        | on el hc => exact ⟨_, _, _, rfl, by simp, .inl rfl⟩
      · cases h
    · cases h
  · rename_i k off n
    split at h
    · rename_i b hk
      split at h
      · rename_i cs hcs
        cases h
        obtain ⟨b1, _⟩ := hb
        have b1 : off + n ≤ cs.length := b1
        have hbr := hm k (by simp) b hk
        refine .inl ?_
        cases hr with
        | sv el =>
          rename_i l
          refine ⟨_, _, _, rfl, by simp; omega, .inr ⟨_, rfl, fun j u hj => ?_⟩⟩
          rw [addr_add, Nat.add_assoc]
          exact hbr.cell hcs el (cut_get hj)
        | svn => exact ⟨_, _, _, rfl, by simp, .inl rfl⟩
      · cases h
    · cases h
  · cases h
    cases hr
    exact .inr ⟨_, rfl, rfl⟩
  · cases h
    cases hr
    exact .inl ⟨_, _, _, rfl, rfl, .inl rfl⟩
  · cases h
theorem run_firstCells (w : World) (v : Value) (xs : List Value) (N : Nat) (hN : N ≤ xs.length)
    (h : (∃ a n c, v = .slice a n c ∧ n = xs.length ∧ (n = 0 ∨ ∃ ad, a = some ad ∧ ∀ j u, xs[j]? = some u → w.cell? (ad.add j) = some u)) ∨ (∃ s, v = .string s ∧ xs = byteCells s)) :
    (Builtin.firstCells 1 N v).run P w = .ok (xs.take N).toArray w := by
  rcases h with ⟨a, n, c, rfl, hn, h⟩ | ⟨s, rfl, rfl⟩
  · rcases h with h | ⟨ad, rfl, hc⟩
    · have : N = 0 := by omega
      subst this
      cases a with
      | none => simp [Builtin.firstCells]
      | some ad => simp [Builtin.firstCells, loadCells, loadCellsFrom]
    · have hlen : (xs.take N).length = N := by simp; omega
      have := run_loadCells_list (P := P) w ad (xs.take N) (fun j u hj => hc j u (by
        rw [List.getElem?_take] at hj; split at hj
        · exact hj
        · cases hj))
      rw [hlen] at this
      simp [Builtin.firstCells, this]
  · simp only [Builtin.firstCells, Sem.run_pure]
    congr 1
    apply Array.ext'
    rw [byteCells_length] at hN
    simp [byteCells]
/-- Cells written over from a place on. -/
def ovr (cs : List Value) (off : Nat) (vs : List Value) : List Value := cs.take off ++ vs ++ cs.drop (off + vs.length)
theorem length_ovr (cs : List Value) (off : Nat) (vs : List Value) (h : off + vs.length ≤ cs.length) : (ovr cs off vs).length = cs.length := by
  unfold ovr; simp; omega
/-- Exact cells, laid over mixed ones. -/
def ovrA (cs : List AV) (off : Nat) (vs : List Value) : List AV := cs.take off ++ vs.map .ex ++ cs.drop (off + vs.length)
theorem RelL.app {ρ : Rho} {l l' : List AV} {vs vs' : List Value} (h : RelL ρ l vs) (h' : RelL ρ l' vs') : RelL ρ (l ++ l') (vs ++ vs') := by
  refine ⟨by simp [h.1, h'.1], fun i x v h1 h2 => ?_⟩
  have e := h.1
  by_cases hi : i < l.length
  · rw [List.getElem?_append_left hi] at h1
    rw [List.getElem?_append_left (by omega)] at h2
    exact h.2 i x v h1 h2
  · rw [List.getElem?_append_right (by omega)] at h1
    rw [List.getElem?_append_right (by omega)] at h2
    rw [e] at h1
    exact h'.2 _ x v h1 h2
theorem RelL.exs (ρ : Rho) (vs : List Value) : RelL ρ (vs.map .ex) vs := ⟨by simp, fun i x v h1 h2 => by
  rw [List.getElem?_map, h2] at h1; cases h1; exact .ex _⟩
theorem RelL.take {ρ : Rho} {l : List AV} {vs : List Value} (h : RelL ρ l vs) (n : Nat) : RelL ρ (l.take n) (vs.take n) := by
  have := h.cut 0 n; simpa using this
theorem RelL.drop {ρ : Rho} {l : List AV} {vs : List Value} (h : RelL ρ l vs) (n : Nat) : RelL ρ (l.drop n) (vs.drop n) :=
  ⟨by simp [h.1], fun i x v h1 h2 => by rw [List.getElem?_drop] at h1 h2; exact h.2 _ x v h1 h2⟩
theorem RelL.ovr {ρ : Rho} {l : List AV} {vs : List Value} (h : RelL ρ l vs) (o : Nat) (us : List Value) : RelL ρ (ovrA l o us) (Ab.ovr vs o us) :=
  ((h.take o).app (.exs ρ us)).app (h.drop _)
def dstA : AV → Option (Nat × Nat × Nat)
  | .s k off n _ => some (k, off, n)
  | .o k off n => some (k, off, n)
  | _ => none
def evCopy (P : Program) (ev : Operand → AV) (m : Nat → Option Blk) (dT : TypeId) (x y : Operand) : Option (Res × List Ob) :=
  match P.underlying dT, dstA (ev x), srcA m (ev y) with
  | some (.slice e), some (k, off, n), some (rd, xs, obs) => match P.info? e, m k with
    | some i, some (.own cs) => if i.size = 1 then some ({ val := .ex (.int .i64 (min xs.length n : Nat)), upd := [(k, .own (ovr cs off (xs.take (min xs.length n))))], wks := [k], rd := k :: rd }, .le (off + n) cs.length :: .one xs :: obs) else none
    | some i, some (.row cs) => if i.size = 1 then some ({ val := .ex (.int .i64 (min xs.length n : Nat)), upd := [(k, .row (ovr cs off (xs.take (min xs.length n))))], wks := [k], rd := k :: rd }, .le (off + n) cs.length :: .one xs :: obs) else none
    | some i, some (.mix cs) => if i.size = 1 then some ({ val := .ex (.int .i64 (min xs.length n : Nat)), upd := [(k, .mix (ovrA cs off (xs.take (min xs.length n))))], wks := [k], rd := k :: rd }, .le (off + n) cs.length :: .one xs :: obs) else none
    | _, _ => none
  | _, _, _ => none
theorem lenOf_src {w : World} {v : Value} {xs : List Value} (h : (∃ a n c, v = .slice a n c ∧ n = xs.length ∧ (n = 0 ∨ ∃ ad, a = some ad ∧ ∀ j u, xs[j]? = some u → w.cell? (ad.add j) = some u)) ∨ (∃ s, v = .string s ∧ xs = byteCells s)) (w' : World) :
    (Builtin.lenOf v).run P w' = .ok xs.length w' := by
  rcases h with ⟨a, n, c, rfl, hn, _⟩ | ⟨s, rfl, rfl⟩
  · simp [Builtin.lenOf, hn]
  · simp [Builtin.lenOf, byteCells_length]
theorem dstA_rel {ρ : Rho} {x : AV} {v : Value} {k off n : Nat} (h : dstA x = some (k, off, n)) (hr : Rel ρ x v) {l : Loc} (hl : ρ k = some l) (hd : l.d = 0) :
    ∃ a c, v = .slice a n c ∧ (n = 0 ∨ a = some ⟨l.b, off, none⟩) := by
  unfold dstA at h
  split at h
  · cases h
    cases hr with
    | s el => rw [hl] at el; cases el; exact ⟨_, _, rfl, .inr (by rw [hd, Nat.zero_add])⟩
    | sn => exact ⟨_, _, rfl, .inl rfl⟩
  · cases h
    cases hr with
    | o el _ _ => rw [hl] at el; cases el; exact ⟨_, _, rfl, .inr rfl⟩
    | on _ _ => exact ⟨_, _, rfl, .inl rfl⟩
  · cases h
theorem evCopy_ok {ev : Operand → AV} {m : Nat → Option Blk} {o : Oper} {dT sT : TypeId} {x y : Operand} {r : Res} {obs : List Ob} (ho : o.op = .call { callee := .builtin .copy, args := #[x, y], argTypes := #[dT, sT] }) (h : evCopy P ev m dT x y = some (r, obs)) (hb : AllOb P obs) : OpOK0 P G o ev m r := by
  have hx : x ∈ o.op.operands := by rw [ho]; simp [Op.operands, Call.operands]
  have hy : y ∈ o.op.operands := by rw [ho]; simp [Op.operands, Call.operands]
  -- the run, whatever lies there
  have run : ∀ (a : Act) (w : World) (e : TypeId) (i : TypeInfo) (ad : Option Addr) (n c : Nat) (xs cur : List Value) (b off : Nat), P.underlying dT = some (.slice e) → P.info? e = some i → i.size = 1 → a.eval x = .slice ad n c →
      ((∃ a' n' c', a.eval y = .slice a' n' c' ∧ n' = xs.length ∧ (n' = 0 ∨ ∃ ad, a' = some ad ∧ ∀ j u, xs[j]? = some u → w.cell? (ad.add j) = some u)) ∨ (∃ s, a.eval y = .string s ∧ xs = byteCells s)) →
      (n = 0 ∨ ad = some ⟨b, off, none⟩) → Has w b cur → off + n ≤ cur.length → xs.all (·.oneCell') = true →
      (execOp a.eval o).run P w = .ok (.value (.int .i64 (min xs.length n : Nat))) (w.setRow b (ovr cur off (xs.take (min xs.length n))).toArray) := by
    intro a w e i ad n c xs cur b off hu hi hs hax hsrc hn hcur hle hone
    have hmin : min xs.length n ≤ xs.length := Nat.min_le_left _ _
    have hmin' : min xs.length n ≤ n := Nat.min_le_right _ _
    have hf := run_firstCells (P := P) w (a.eval y) xs (min xs.length n) hmin hsrc
    have hmm : Nat.min xs.length n = min xs.length n := rfl
    have hl := lenOf_src (P := P) hsrc w
    have hlt : (xs.take (min xs.length n)).length = min xs.length n := by rw [List.length_take]; omega
    rcases hn with hn | rfl
    · have e0 : min xs.length n = 0 := by omega
      have hmm : Nat.min xs.length n = 0 := e0
      have : w.setRow b (ovr cur off []).toArray = w := by
        obtain ⟨t, fr, h1, _⟩ := hcur
        have : ovr cur off [] = cur := by simp [ovr]
        rw [this]; exact setRow_self w b cur.toArray t fr h1
      rw [e0] at hf ⊢
      simp only [List.take_zero] at hf ⊢
      rw [this]
      cases ad with
      | none => simp [execOp, ho, resolve, invoke, builtin, Builtin.copy_, run_underlying hu, hax, hl, sizeOf, typeInfo, hi, hs, hmm, hf, goInt]
      | some ad => simp [execOp, ho, resolve, invoke, builtin, Builtin.copy_, run_underlying hu, hax, hl, sizeOf, typeInfo, hi, hs, hmm, hf, goInt, storeCells]
    · have hst := run_storeCells_has (P := P) b off (xs.take (min xs.length n)) 0 cur w hcur (by rw [hlt]; omega) (fun u hu => List.all_eq_true.1 hone u (List.mem_of_mem_take hu))
      simp only [Nat.add_zero] at hst
      have hst' : (storeCells ⟨b, off, none⟩ (xs.take (min xs.length n))).run P w = .ok () (w.setRow b (ovr cur off (xs.take (min xs.length n))).toArray) := hst
      simp only [execOp, ho, resolve, invoke, builtin, Builtin.copy_, Sem.run_bind, Sem.run_pure, Result.andThen_ok, run_underlying hu, List.map_toArray, List.map_cons, List.map_nil, hax, hl, sizeOf, typeInfo, hi, hs, hmm, hf, goInt, List.getElem?_toArray, List.getElem?_cons_zero, List.getElem?_cons_succ, hst', program, Sem.run]
  unfold evCopy at h
  split at h
  · rename_i e k off n rd xs obs' hu hd hsrc
    split at h
    · rename_i i cs hi hk
      split at h
      · rename_i hs
        cases h
        obtain ⟨b1, b2, b3⟩ := hb
        have b1 : off + n ≤ cs.length := b1
        have b2 : xs.all (·.oneCell') = true := b2
        refine OpOK0.of_run fun ρ a w g1 g2 _ => ?_
        obtain ⟨l, f1, f2, f3, f4⟩ := g2 k (by simp) _ hk
        obtain ⟨ad, c, hax, hn⟩ := dstA_rel hd (g1 x hx) f1 f2
        have hsr := srcA_rel hsrc (g1 y hy) (fun k' hk' => g2 k' (by simp [hk'])) b3
        refine ⟨_, _, ρ, .inl (run a w e i ad n c xs cs l.b off hu hi hs hax hsr hn f4 b1 b2), Rho.le_refl _, fun _ _ => rfl, .ex _, fun k' b' hm' => ?_, Fr.setRow (by simp) f1 f3 _, (fun _ hm => nomatch hm), (fun _ hm => nomatch hm)⟩
        simp at hm'; obtain ⟨rfl, rfl⟩ := hm'
        have := Nat.min_le_right xs.length n
        exact ⟨l, f1, f2, f3, f4.setRow _ (length_ovr _ _ _ (by rw [List.length_take]; omega))⟩
      · cases h
    · rename_i i cs hi hk
      split at h
      · rename_i hs
        cases h
        obtain ⟨b1, b2, b3⟩ := hb
        have b1 : off + n ≤ cs.length := b1
        have b2 : xs.all (·.oneCell') = true := b2
        refine OpOK0.of_run fun ρ a w g1 g2 _ => ?_
        have hrow := g2 k (by simp) _ hk
        obtain ⟨l, f1, f2, f3⟩ := hrow
        obtain ⟨ad, c, hax, hn⟩ := dstA_rel hd (g1 x hx) f1 f2
        have hsr := srcA_rel hsrc (g1 y hy) (fun k' hk' => g2 k' (by simp [hk'])) b3
        have hmin := Nat.min_le_right xs.length n
        rcases f3 with ⟨f3, rfl⟩ | ⟨f3, rest, f4, f5⟩
        · simp at b1
          have en : n = 0 := by omega
          subst en
          have e0 : min xs.length 0 = 0 := by omega
          have hmm : Nat.min xs.length 0 = 0 := e0
          have hf := run_firstCells (P := P) w (a.eval y) xs 0 (by omega) hsr
          have hl := lenOf_src (P := P) hsr w
          refine ⟨.int .i64 ((min xs.length 0 : Nat) : Int), w, ρ, .inl ?_, Rho.le_refl _, fun _ _ => rfl, .ex _, fun k' b' hm' => ?_, Fr.refl _ _ _, (fun _ hm => nomatch hm), (fun _ hm => nomatch hm)⟩
          · simp only [List.take_zero] at hf
            cases ad with
            | none => simp [execOp, ho, resolve, invoke, builtin, Builtin.copy_, run_underlying hu, hax, hl, sizeOf, typeInfo, hi, hs, hmm, hf, goInt]
            | some ad => simp [execOp, ho, resolve, invoke, builtin, Builtin.copy_, run_underlying hu, hax, hl, sizeOf, typeInfo, hi, hs, hmm, hf, goInt, storeCells]
          · simp at hm'; obtain ⟨rfl, rfl⟩ := hm'
            have : ovr [] off [] = [] := by simp [ovr]
            rw [this]
            exact ⟨l, f1, f2, .inl ⟨f3, rfl⟩⟩
        · refine ⟨_, _, ρ, .inl (run a w e i ad n c xs (cs ++ rest) l.b off hu hi hs hax hsr hn f4 (by simp; omega) b2), Rho.le_refl _, fun _ _ => rfl, .ex _, fun k' b' hm' => ?_, Fr.setRow (by simp) f1 f3 _, (fun _ hm => nomatch hm), (fun _ hm => nomatch hm)⟩
          simp at hm'; obtain ⟨rfl, rfl⟩ := hm'
          have hlt : (xs.take (min xs.length n)).length = min xs.length n := by rw [List.length_take]; have := Nat.min_le_left xs.length n; omega
          have e1 : ovr (cs ++ rest) off (xs.take (min xs.length n)) = ovr cs off (xs.take (min xs.length n)) ++ rest := by
            unfold ovr
            rw [List.take_append_of_le_length (by omega), List.drop_append_of_le_length (by omega)]
            simp
          have e2 := length_ovr cs off (xs.take (min xs.length n)) (by omega)
          rw [e1]
          exact ⟨l, f1, f2, .inr ⟨f3, rest, f4.setRow _ (by simp [e2]), by simp [e2]; simpa using f5⟩⟩
      · cases h
    · rename_i i cs hi hk
      split at h
      · rename_i hs
        cases h
        obtain ⟨b1, b2, b3⟩ := hb
        have b1 : off + n ≤ cs.length := b1
        have b2 : xs.all (·.oneCell') = true := b2
        refine OpOK0.of_run fun ρ a w g1 g2 _ => ?_
        obtain ⟨l, vs, f1, f2, f3, f4, f5⟩ := g2 k (by simp) _ hk
        obtain ⟨ad, c, hax, hn⟩ := dstA_rel hd (g1 x hx) f1 f2
        have hsr := srcA_rel hsrc (g1 y hy) (fun k' hk' => g2 k' (by simp [hk'])) b3
        refine ⟨_, _, ρ, .inl (run a w e i ad n c xs vs l.b off hu hi hs hax hsr hn f4 (by rw [← f5.1]; exact b1) b2), Rho.le_refl _, fun _ _ => rfl, .ex _, fun k' b' hm' => ?_, Fr.setRow (by simp) f1 f3 _, (fun _ hm => nomatch hm), (fun _ hm => nomatch hm)⟩
        simp at hm'; obtain ⟨rfl, rfl⟩ := hm'
        have := Nat.min_le_right xs.length n
        have hvl := f5.1
        exact ⟨l, _, f1, f2, f3, f4.setRow _ (length_ovr _ _ _ (by rw [List.length_take]; omega)), f5.ovr off _⟩
      · cases h
    · cases h
  · cases h

/-! append -/
/-- What is appended to: no block; a block that goes. -/
def baseA (m : Nat → Option Blk) : AV → Option (List Nat × List Value × List Ob)
  | .ex (.slice none 0 0) => some ([], [], [])
  | .s k off n c => if Nat.beq n 0 && Nat.beq c 0 then some ([], [], []) else match m k with
    | some (.own cs) => if off = 0 then some ([k], cs, [.le n cs.length, .le cs.length n, .le c cs.length, .le cs.length c]) else none
    | _ => none
  | .o k off n => match m k with
    | some (.row cs) => if off = 0 then some ([k], cs, [.le n cs.length, .le cs.length n]) else none
    | _ => none
  | _ => none
def isRowT : TypeDesc → Bool
  | .slice _ => true
  | .string => true
  | _ => false
def evAppend (P : Program) (ev : Operand → AV) (m : Nat → Option Blk) (nk : Nat) (t tx : TypeId) (x y : Operand) : Option (Res × List Ob) :=
  match P.underlying t, baseA m (ev x), srcA m (ev y) with
  | some (.slice e), some (ks, cs, ob1), some (rd, xs, ob2) => match P.info? e, P.underlying tx with
    | some i, some d => match i.zero with
      | some z => if i.size = 1 ∧ z.oneCell' = true ∧ isRowT d = true ∧ ks.all (fun k => !rd.contains k) = true then
          some ({ val := .o nk 0 (cs.length + xs.length), upd := [(nk, .row (cs ++ xs))], nks := [nk], wks := ks, kill := ks, rd := ks ++ rd }, .le ((cs.length + xs.length) * i.bytes) 140737488355328 :: .le (cs.length + xs.length) 140737488355328 :: .one xs :: (ob1 ++ ob2)) else none
      | none => none
    | _, _ => none
  | _, _, _ => none
end
end Go.Proofs.YtdfbcdgneboilaaDoor.Ab
