/- Own: what lay there when a call began; a whole region of operations (no statement is proved here). -/
import Derived.Test.YtdfbcdgneboilaaDoorA3
namespace Go.Proofs.YtdfbcdgneboilaaDoor.Ab
open Go.RowKit

section
variable {P : Program} {G : Nat → Option Nat}
/-! ## a whole region -/
def mget (M : List (Nat × Blk)) (k : Nat) : Option Blk := M.lookup k
def tget (T : List AV) (t : Nat) : AV := T.getD t .j
def applyM (r : Res) (M : List (Nat × Blk)) : List (Nat × Blk) := r.upd.filter (fun x => !r.kill.contains x.1) ++ M.filter (fun x => (r.at x.1).isNone)
def setT (T : List AV) (d : Option Tmp) (x : AV) : List AV := match d with
  | some d => T.set d x
  | none => T
theorem blt_lt {a b : Nat} (h : Nat.blt a b = true) : a < b := Nat.le_of_ble_eq_true h
def wfB (r : Res) (M : List (Nat × Blk)) (lo hi : Nat) : Bool :=
  r.nks.all (fun k => Nat.ble lo k && Nat.blt k hi && (r.at k).isSome) &&
  r.wks.all (fun k => r.rd.contains k && (r.at k).isSome && (match mget M k with | some b => b.wr | none => false)) &&
  r.kill.all (fun k => r.wks.contains k) &&
  r.upd.all (fun x => r.nks.contains x.1 || (r.wks.contains x.1 && x.2.wr))
theorem wfB_sound {r : Res} {M : List (Nat × Blk)} {lo hi : Nat} (h : wfB r M lo hi = true) : Wf r (mget M) lo hi := by
  unfold wfB at h
  simp only [Bool.and_eq_true, List.all_eq_true] at h
  obtain ⟨⟨⟨h1, h2⟩, h3⟩, h4⟩ := h
  refine ⟨fun k hk => ?_, fun k hk => ?_, fun k hk => by simpa using h3 k hk, fun k b hat => ?_, fun k hat => ?_, fun k hk => ?_⟩
  · obtain ⟨⟨a, b⟩, _⟩ := h1 k hk
    exact ⟨Nat.le_of_ble_eq_true a, blt_lt b⟩
  · obtain ⟨⟨a, b⟩, c⟩ := h2 k hk
    refine ⟨by simpa using a, fun e => by rw [e] at b; simp at b, ?_⟩
    split at c
    · rename_i b' hb'; exact ⟨b', hb', c⟩
    · cases c
  · simp only [Res.at] at hat
    split at hat
    · cases hat
    · rename_i hk
      cases hl : r.upd.lookup k with
      | none => rw [hl] at hat; cases hat
      | some b' =>
        rw [hl] at hat
        cases hat
        have hm := lookup_mem hl
        refine ⟨hm, ?_⟩
        have := h4 _ hm
        simp only [Bool.or_eq_true, Bool.and_eq_true] at this
        rcases this with h | ⟨h, h'⟩
        · exact .inl (by simpa using h)
        · exact .inr ⟨by simpa using h, h'⟩
  · simp only [Res.at] at hat
    split at hat
    · assumption
    · cases hl : r.upd.lookup k <;> rw [hl] at hat <;> cases hat
  · obtain ⟨_, c⟩ := h1 k hk
    intro e; rw [e] at c; simp at c
theorem lookup_filter {k : Nat} (p : Nat → Bool) : ∀ (l : List (Nat × Blk)), (l.filter fun x => p x.1).lookup k = if p k then l.lookup k else none
  | [] => by simp
  | (k', b) :: l => by
    have ih := lookup_filter (k := k) p l
    rw [List.filter_cons]
    by_cases hk : k = k'
    · subst hk
      by_cases hp : p k
      · simp [hp]
      · simp only [hp, Bool.false_eq_true, if_false] at ih ⊢
        exact ih
    · have e : (k == k') = false := by simpa using hk
      split
      · rw [List.lookup_cons, List.lookup_cons, e]; exact ih
      · rw [List.lookup_cons, e]; exact ih
theorem lookup_append {k : Nat} : ∀ (l l' : List (Nat × Blk)), (l ++ l').lookup k = (l.lookup k).or (l'.lookup k)
  | [], l' => by simp
  | (k', b) :: l, l' => by
    rw [List.cons_append, List.lookup_cons, List.lookup_cons]
    split
    · simp
    · exact lookup_append l l'
theorem mget_apply (r : Res) (M : List (Nat × Blk)) (k : Nat) : mget (applyM r M) k = (r.at k).getD (mget M k) := by
  unfold mget applyM
  rw [lookup_append, lookup_filter (fun k => !r.kill.contains k), lookup_filter (fun k => (r.at k).isNone)]
  simp only [Res.at]
  by_cases hk : k ∈ r.kill
  · simp [hk]
  · have : r.kill.contains k = false := by simpa using hk
    simp only [this, hk, Bool.not_false, if_true, if_false]
    generalize List.lookup k r.upd = x
    cases x <;> simp
theorem tget_set (T : List AV) (d : Option Tmp) (x : AV) (t : Nat) (h : ∀ e, d = some e → e < T.length) : tget (setT T d x) t = if d = some t then x else tget T t := by
  cases d with
  | none => simp [setT]
  | some e =>
    have he := h e rfl
    simp only [setT, tget, List.getD_eq_getElem?_getD, List.getElem?_set, Option.some.injEq]
    by_cases hte : e = t
    · subst hte; simp [he]
    · simp [hte]
def dstB (T : List AV) (d : Option Tmp) : Bool := match d with
  | some d => Nat.blt d T.length
  | none => true
/-! what lay there when the call began -/
def viewG (m : Nat → Option Blk) (k : Nat) : Option Blk := match m k with
  | some (.old cs) => some (.view cs)
  | x => x
def isOldK (m : Nat → Option Blk) (k : Nat) : Bool := match m k with
  | some (.old _) => true
  | _ => false
/-- No row that is appended to lies at one of these keys. -/
def oB (D : Nat → Bool) : Nat → AV → Bool
  | 0, _ => false
  | _ + 1, .o k _ _ => !D k
  | n + 1, .agg l => l.all (oB D n)
  | n + 1, .tup l => l.all (oB D n)
  | _ + 1, _ => true
def blkO (D : Nat → Bool) : Blk → Bool
  | .mix cs => cs.all (oB D 4)
  | .mixv cs => cs.all (oB D 4)
  | .rowA _ cs => cs.all (oB D 4)
  | _ => true
def oldOk (ev : Operand → AV) (m : Nat → Option Blk) (o : Oper) (D : Nat → Bool) (r : Res) : Bool :=
  o.op.operands.all (fun x => oB D 4 (ev x)) && oB D 4 r.val && r.upd.all (fun x => blkO D x.2 && !D x.1) && r.wks.all (fun k => !D k) && r.kill.all (fun k => !D k) && r.nks.all (fun k => !D k) &&
  r.rd.all (fun k => match m k with | some b => blkO D b | none => true)
/-- Two maps that tell the same places. -/
def Alike (D : Nat → Bool) (ρ ρ2 : Rho) : Prop := ∀ k l, ρ k = some l → ∃ l2, ρ2 k = some l2 ∧ l2.b = l.b ∧ l2.d = l.d ∧ (D k = false → l2.c = l.c)
theorem oB_rel {D : Nat → Bool} {ρ ρ2 : Rho} (hA : Alike D ρ ρ2) : ∀ (n : Nat) {x : AV} {v : Value}, oB D n x = true → Rel ρ x v → Rel ρ2 x v
  | 0, x, v, h, _ => by cases h
  | n + 1, x, v, h, hr => by
    cases hr with
    | ex v => exact .ex v
    | @p k off l e => obtain ⟨l2, g1, g2, g3, _⟩ := hA _ _ e; have := Rel.p (off := off) g1; rw [g2, g3] at this; exact this
    | @s k off m c l e => obtain ⟨l2, g1, g2, g3, _⟩ := hA _ _ e; have := Rel.s (off := off) (n := m) (c := c) g1; rw [g2, g3] at this; exact this
    | sn => exact .sn
    | @sv k off m c l e hc => obtain ⟨l2, g1, g2, g3, _⟩ := hA _ _ e; have := Rel.sv (off := off) g1 hc; rw [g2, g3] at this; exact this
    | svn => exact .svn
    | @o k off m l e hd hc =>
      have hD : D k = false := by simpa [oB] using h
      obtain ⟨l2, g1, g2, g3, g4⟩ := hA _ _ e
      have := Rel.o g1 (g3.trans hd) (by rw [g4 hD]; exact hc)
      rw [g2, g4 hD] at this; exact this
    | @on k off l a e hc =>
      have hD : D k = false := by simpa [oB] using h
      obtain ⟨l2, g1, g2, g3, g4⟩ := hA _ _ e
      exact .on g1 (by rw [g4 hD]; exact hc)
    | f e hc =>
      refine .f e fun i k v h1 h2 => ?_
      obtain ⟨l, g1, g2⟩ := hc i k v h1 h2
      obtain ⟨l2, q1, q2, q3, _⟩ := hA _ _ g1
      exact ⟨l2, q1, by rw [g2, q2, q3]⟩
    | agg e hl => exact .agg e fun i y u h1 h2 => oB_rel hA n (List.all_eq_true.1 (show List.all _ (oB D n) = true from h) y (List.mem_of_getElem? h1)) (hl i y u h1 h2)
    | tup e hl => exact .tup e fun i y u h1 h2 => oB_rel hA n (List.all_eq_true.1 (show List.all _ (oB D n) = true from h) y (List.mem_of_getElem? h1)) (hl i y u h1 h2)
    | j v => exact .j v
theorem oB_relL {D : Nat → Bool} {ρ ρ2 : Rho} (hA : Alike D ρ ρ2) {n : Nat} {l : List AV} {vs : List Value} (h : l.all (oB D n) = true) (hr : RelL ρ l vs) : RelL ρ2 l vs :=
  ⟨hr.1, fun i x v h1 h2 => oB_rel hA n (List.all_eq_true.1 h x (List.mem_of_getElem? h1)) (hr.2 i x v h1 h2)⟩
theorem blkO_rel {D : Nat → Bool} {ρ ρ2 : Rho} (hA : Alike D ρ ρ2) {w : World} {k : Nat} {b : Blk} (hk : D k = false) (h : blkO D b = true) (hr : BRel ρ w k b) : BRel ρ2 w k b := by
  have same : ∀ l, ρ k = some l → ρ2 k = some l := fun l e => by
    obtain ⟨l2, g1, g2, g3, g4⟩ := hA k l e
    obtain ⟨b2, d2, c2⟩ := l2
    obtain ⟨b1, d1, c1⟩ := l
    simp only at g2 g3
    have := g4 hk
    simp only at this
    rw [g1, g2, g3, this]
  cases b with
  | own cs => obtain ⟨l, g1, g2⟩ := hr; exact ⟨l, same l g1, g2⟩
  | mix cs => obtain ⟨l, vs, g1, g2, g3, g4, g5⟩ := hr; exact ⟨l, vs, same l g1, g2, g3, g4, oB_relL hA h g5⟩
  | view cs => obtain ⟨l, g1, g2⟩ := hr; exact ⟨l, same l g1, g2⟩
  | mixv cs => obtain ⟨l, vs, g1, g2, g3, g4, g5⟩ := hr; exact ⟨l, vs, same l g1, g2, g3, g4, oB_relL hA h g5⟩
  | row cs => obtain ⟨l, g1, g2⟩ := hr; exact ⟨l, same l g1, g2⟩
  | rowA s cs => obtain ⟨l, vs, g1, g2, g3, g4⟩ := hr; exact ⟨l, vs, same l g1, g2, oB_relL hA h g3, g4⟩
  | rowX s cs => obtain ⟨l, g1, g2⟩ := hr; exact ⟨l, same l g1, g2⟩
  | old cs => obtain ⟨l, g1, g2⟩ := hr; exact ⟨l, same l g1, g2⟩
  | rows ls => obtain ⟨l, g1, g2⟩ := hr; exact ⟨l, same l g1, g2⟩
theorem OpOK0.congr {o : Oper} {ev : Operand → AV} {m m' : Nat → Option Blk} {r : Res} (he : ∀ k ∈ r.rd, m k = m' k) (h : OpOK0 P G o ev m r) : OpOK0 P G o ev m' r := by
  intro ρ a w Q K h1 h2 h3 h4 h5 h6 h7
  exact h ρ a w Q K h1 (fun k hk b hb => h2 k hk b (by rw [← he k hk]; exact hb)) h3
    (fun k hk k' hk' hne b b' l l' hb hb' => h4 k hk k' hk' hne b b' l l' (by rw [← he k hk]; exact hb) (by rw [← he k' hk']; exact hb')) h5
    (fun k hk b hb => h6 k hk b (by rw [← he k hk]; exact hb)) h7
theorem OpOK0.old {W : World} {X : Nat → Prop} {o : Oper} {ev : Operand → AV} {m : Nat → Option Blk} {r : Res} (h : OpOK0 P G o ev (viewG m) r) (hc : oldOk ev m o (isOldK m) r = true) (hu : ∀ k b, (k, b) ∈ r.upd → b.isOld = false) : OpOK P G W X o ev m r := by
  classical
  unfold oldOk at hc
  simp only [Bool.and_eq_true] at hc
  obtain ⟨⟨⟨⟨⟨⟨c1, c2⟩, c3⟩, c4⟩, c5⟩, c6⟩, c7⟩ := hc
  have nD : ∀ {l : List Nat}, l.all (fun k => !isOldK m k) = true → ∀ k ∈ l, isOldK m k = false := fun h k hk => by simpa using List.all_eq_true.1 h k hk
  intro ρ a w Q K h1 h2 h3 h4 h5 h6 h7 h8 h9 h10
  -- what lay there is told as if it lay in a block of its own
  let up : Nat → Option Loc := fun k => match m k with
    | some (.old cs) => if k ∈ r.rd then (ρ k).map fun l => ⟨l.b, l.d, if cs = [] then 0 else 1⟩ else ρ k
    | _ => ρ k
  have upNot : ∀ k, isOldK m k = false → up k = ρ k := fun k hk => by
    show (match m k with | some (.old cs) => _ | _ => ρ k) = ρ k
    unfold isOldK at hk
    split
    · rename_i cs e; rw [e] at hk; cases hk
    · rfl
  have upOld : ∀ k cs l, m k = some (.old cs) → k ∈ r.rd → ρ k = some l → up k = some ⟨l.b, l.d, if cs = [] then 0 else 1⟩ := fun k cs l e hk hl => by
    show (match m k with | some (.old cs) => _ | _ => ρ k) = _
    rw [e]; simp only; rw [if_pos hk, hl]; rfl
  have hA : Alike (isOldK m) ρ up := fun k l hl => by
    by_cases hk : isOldK m k = false
    · exact ⟨l, (upNot k hk).trans hl, rfl, rfl, fun _ => rfl⟩
    · show ∃ l2, (match m k with | some (.old cs) => _ | _ => ρ k) = some l2 ∧ _
      split
      · split
        · rw [hl]; exact ⟨_, rfl, rfl, rfl, fun e => absurd e hk⟩
        · exact ⟨l, hl, rfl, rfl, fun _ => rfl⟩
      · exact ⟨l, hl, rfl, rfl, fun _ => rfl⟩
  have hnow : ∀ k ∈ r.rd, ∀ b, m k = some b → OldB w (wrote ρ r.wks) ρ k b := fun k hk b hb => (h6 k hk b hb).now h7 fun bl hlt hX ⟨k', hk', l, hl, hcc, e⟩ => by
    subst e
    rcases h9 k' hk' l hl hcc with h | h
    · omega
    · exact hX h
  have far : ∀ k ∈ r.rd, ∀ b l, m k = some b → b.wr = true → ρ k = some l → l.c ≠ 0 → ∀ k' ∈ r.rd, ∀ cs l', m k' = some (.old cs) → ρ k' = some l' → cs ≠ [] → l.b ≠ l'.b := fun k hk b l hb hw hl hcc k' hk' cs l' hb' hl' hne e => by
    obtain ⟨l2, q1, q2⟩ := h6 k' hk' _ hb'
    rw [hl'] at q1; cases q1
    rcases q2 with q2 | ⟨q2, q3, _⟩
    · exact hne q2
    · rcases h8 k hk b l hb hw hl hcc with h | h
      · omega
      · exact q3 (e ▸ h)
  refine h up a w Q K (fun x hx => oB_rel hA 4 (Array.all_eq_true'.1 c1 x hx) (h1 x hx)) (fun k hk b hb => ?_) (fun k hk => (upNot k (nD c6 k hk)).trans (h3 k hk)) (fun k hk k' hk' hne b b' l l' hb hb' hw hl hl' hc1 hc2 => ?_) (fun g k hg => ?_) (fun k hk b hb => ?_) (fun v w' ρ' hs => ?_)
  · unfold viewG at hb
    split at hb
    · rename_i cs e
      cases hb
      obtain ⟨l, q1, q2⟩ := hnow k hk _ e
      refine ⟨_, upOld k cs l e hk q1, ?_⟩
      rcases q2 with rfl | ⟨_, _, q2⟩
      · exact .inl ⟨by simp, rfl⟩
      · by_cases hcs : cs = []
        · exact .inl ⟨by simp [hcs], hcs⟩
        · exact .inr ⟨by simp [hcs], hcs, q2⟩
    · rename_i x hx
      have hk' : isOldK m k = false := by
        unfold isOldK
        split
        · rename_i cs e; exact absurd e (hx cs)
        · rfl
      have hbk : blkO (isOldK m) b = true := by
        have := List.all_eq_true.1 c7 k hk
        rw [hb] at this
        exact this
      exact blkO_rel hA hk' hbk (h2 k hk b hb)
  · have wrM : ∀ k b, viewG m k = some b → b.wr = true → m k = some b ∧ isOldK m k = false := fun k b hb hw => by
      unfold viewG at hb
      split at hb
      · cases hb; cases hw
      · rename_i x hx
        refine ⟨hb, ?_⟩
        unfold isOldK
        split
        · rename_i cs e; exact absurd e (hx cs)
        · rfl
    obtain ⟨e1, n1⟩ := wrM k b hb hw
    have hl0 : ρ k = some l := (upNot k n1).symm.trans hl
    unfold viewG at hb'
    split at hb'
    · rename_i cs e
      obtain ⟨l0, q1, _⟩ := h6 k' hk' _ e
      rw [upOld k' cs l0 e hk' q1] at hl'
      cases hl'
      refine far k hk b l e1 hw hl0 hc1 k' hk' cs l0 e q1 fun hcs => ?_
      simp [hcs] at hc2
    · rename_i x hx
      have n2 : isOldK m k' = false := by
        unfold isOldK
        split
        · rename_i cs e; exact absurd e (hx cs)
        · rfl
      exact h4 k hk k' hk' hne b b' l l' e1 hb' hw hl0 ((upNot k' n2).symm.trans hl') hc1 hc2
  · obtain ⟨l, g1, g2, g3⟩ := h5 g k hg
    obtain ⟨l2, q1, q2, q3, _⟩ := hA k l g1
    exact ⟨l2, q1, q2.trans g2, q3.trans g3⟩
  · unfold viewG at hb
    split at hb
    · cases hb; trivial
    · rename_i x hx
      have n2 : isOldK m k = false := by
        unfold isOldK
        split
        · rename_i cs e; exact absurd e (hx cs)
        · rfl
      refine ((hnow k hk b hb).now (X := wrote ρ r.wks) (Y := wrote up r.wks) ⟨rfl, rfl, rfl, Nat.le_refl _, fun _ _ _ => rfl⟩ fun bl _ hn hy => hn ?_).mono fun l e => (upNot k n2).trans e
      obtain ⟨k', g1, l, g2, g3⟩ := hy
      exact ⟨k', g1, l, (upNot k' (nD c4 k' g1)).symm.trans g2, g3⟩
  · let bk : Nat → Option Loc := fun k => if isOldK m k = true then ρ k else ρ' k
    have bkNot : ∀ k, isOldK m k = false → bk k = ρ' k := fun k e => by show (if _ then _ else _) = _; rw [if_neg (by simp [e])]
    have bkOld : ∀ k, isOldK m k = true → bk k = ρ k := fun k e => by show (if _ then _ else _) = _; rw [if_pos e]
    have hB : Alike (isOldK m) ρ' bk := fun k l hl => by
      by_cases hk : isOldK m k = true
      · have hn : k ∉ r.nks := fun hn => by rw [nD c6 k hn] at hk; cases hk
        rw [hs.same k hn] at hl
        cases hr : ρ k with
        | none =>
          have : up k = none := by
            show (match m k with | some (.old cs) => if k ∈ r.rd then (ρ k).map _ else ρ k | _ => ρ k) = none
            split
            · split <;> simp [hr]
            · exact hr
          rw [this] at hl; cases hl
        | some l0 =>
          obtain ⟨l2, q1, q2, q3, _⟩ := hA k l0 hr
          rw [q1] at hl; cases hl
          exact ⟨l0, (bkOld k hk).trans hr, q2.symm, q3.symm, fun e => by rw [hk] at e; cases e⟩
      · have hk' : isOldK m k = false := by simpa using hk
        exact ⟨l, (bkNot k hk').trans hl, rfl, rfl, fun _ => rfl⟩
    have c3' : ∀ k b, (k, b) ∈ r.upd → blkO (isOldK m) b = true ∧ isOldK m k = false := fun k b hkb => by
      have := List.all_eq_true.1 c3 (k, b) hkb
      simpa [Bool.and_eq_true] using this
    refine h10 v w' bk ⟨fun k l e => ?_, fun k hk => ?_, oB_rel hB 4 c2 hs.val, fun k b hkb => ?_, ⟨hs.fr.os, hs.fr.tape, hs.fr.output, hs.fr.size, fun b hb hx => hs.fr.block b hb fun k hk l hl hc => hx k hk l ((upNot k (nD c4 k hk)).symm.trans hl) hc⟩, fun k hk l hl hc => ?_, fun k hk k' hk' hne l l' hl hl' hc hc' => ?_⟩ fun k b hkb => .not (hu k b hkb)
    · by_cases hk : isOldK m k = true
      · exact (bkOld k hk).trans e
      · have hk' : isOldK m k = false := by simpa using hk
        exact (bkNot k hk').trans (hs.ext k l ((upNot k hk').trans e))
    · by_cases hk2 : isOldK m k = true
      · exact bkOld k hk2
      · have hk' : isOldK m k = false := by simpa using hk2
        exact (bkNot k hk').trans ((hs.same k hk).trans (upNot k hk'))
    · obtain ⟨g1, g2⟩ := c3' k b hkb
      exact blkO_rel hB g2 g1 (hs.upd k b hkb)
    · have n1 := nD c6 k hk
      obtain ⟨g1, g2⟩ := hs.new k hk l ((bkNot k n1).symm.trans hl) hc
      refine ⟨g1, g2.imp id fun ⟨k', q1, l', q2, q3⟩ => ⟨k', q1, l', (upNot k' (nD c5 k' q1)).symm.trans q2, q3⟩⟩
    · exact hs.dist k hk k' hk' hne l l' ((bkNot k (nD c6 k hk)).symm.trans hl) ((bkNot k' (nD c6 k' hk')).symm.trans hl') hc hc'
/-- A row of a row of rows. -/
def evRow (P : Program) (ev : Operand → AV) (m : Nat → Option Blk) (nk : Nat) (o : Oper) : Option (Res × List Ob) := match o.op with
  | .load t x => match ev x, aggT P t with
    | .p k off, some (false, _) => match m k with
      | some (.rows ls) => some ({ val := .sv nk 0 (ls.getD off []).length, upd := [(nk, .old (ls.getD off []))], nks := [nk], rd := [k] }, [.le (off + 1) ls.length])
      | _ => none
    | _, _ => none
  | _ => none
theorem evRow_ok {W : World} {X : Nat → Prop} {ev : Operand → AV} {m : Nat → Option Blk} {nk : Nat} {o : Oper} {r : Res} {obs : List Ob} (h : evRow P ev m nk o = some (r, obs)) (hb : AllOb P obs) : OpOK P G W X o ev m r := by
  unfold evRow at h
  split at h
  · rename_i t x ho
    split at h
    · rename_i k off n hx ht
      split at h
      · rename_i ls hm
        cases h
        have hle : off + 1 ≤ ls.length := hb.1
        intro ρ a w Q K h1 h2 h3 h4 h5 h6 h7 h8 h9 h10
        obtain ⟨l, hl, hR⟩ := h6 k (by simp) _ hm
        have hp := h1 x (by rw [ho]; simp [Op.operands])
        rw [hx] at hp
        have hpx : a.eval x = .pointer (some ⟨l.b, l.d + off, none⟩) := by
          generalize a.eval x = u at hp
          cases hp with
          | p e => rw [hl] at e; cases e; rfl
        rcases hR with hR | ⟨g1, g2, g3⟩
        · rw [hR] at hle; simp at hle
        have hi : ls[off]? = some (ls.getD off []) := by rw [List.getD_eq_getElem?_getD, List.getElem?_eq_getElem (by omega)]; rfl
        obtain ⟨ad, c, q1, q2, q3⟩ := g3 off _ hi
        have hcell : w.cell? ⟨l.b, l.d + off, none⟩ = some (.slice ad (ls.getD off []).length c) := by
          rw [World.cell?_of_block (w := W) (h7.block _ g1 g2)]; exact q1
        have hnk : ρ nk = none := h3 nk (by simp)
        have hrun := exec_load a o t x ho w ⟨l.b, l.d + off, none⟩ hpx (run_loadVar_one ht w _ _ hcell)
        unfold Oper.wp
        rw [hrun, Oper.upon_value]
        -- where the row lies
        have fin : ∀ l' : Loc, l'.c = 0 → Rel (ρ.add nk l') (.sv nk 0 (ls.getD off []).length) (.slice ad (ls.getD off []).length c) → OldC W X l' (ls.getD off []) → K (a.put o.dst (.slice ad (ls.getD off []).length c)) w := fun l' hc' hrel hold => by
          refine h10 _ w (ρ.add nk l') ⟨Rho.le_add hnk, fun j hj => Rho.add_other _ _ _ _ (by simpa using hj), hrel, fun k' b' hk' => ?_, Fr.refl _ _ _, fun k' hk' l2 hl2 hc2 => ?_, fun k' hk' k2 hk2 hne => ?_⟩ fun k' b' hk' => ?_
          · simp at hk'; obtain ⟨rfl, rfl⟩ := hk'
            exact ⟨l', Rho.add_same _ _ _, hc'⟩
          · simp at hk'; subst hk'
            rw [Rho.add_same] at hl2; cases hl2
            exact absurd hc' hc2
          · simp at hk' hk2; exact absurd (hk'.trans hk2.symm) hne
          · simp at hk'; obtain ⟨rfl, rfl⟩ := hk'
            exact ⟨l', Rho.add_same _ _ _, hold⟩
        rcases q3 with q3 | ⟨b, off', rfl, q4⟩
        · refine fin ⟨0, 0, 0⟩ rfl ?_ (.inl q3)
          rw [q3]; exact .svn
        · have := Rel.sv (ρ := ρ.add nk ⟨b, off', 0⟩) (off := 0) (Rho.add_same ρ nk ⟨b, off', 0⟩) q2
          exact fin ⟨b, off', 0⟩ rfl this q4
      · cases h
    · cases h
  · cases h
def stepRes0 (P : Program) (G : Nat → Option Nat) (sym : List Nat) (orc : List (Nat × Res)) (n0 i : Nat) (T : List AV) (M : List (Nat × Blk)) (o : Oper) : Option (Res × List Ob) :=
  match orc.lookup i with
  | some r => match o.op with
    | .call c => match calleeA P (evA G (tget T)) c with
      | some (f, args) => some (r, [.call G f args (useM (viewG (mget M)) r.rd) r])
      | none => match evalOp P (evA G (tget T)) (viewG (mget M)) (n0 + 4 * i) o with
        | some (r', obs) => some ({ r' with val := r.val }, .eq r'.val r.val :: obs)
        | none => none
    | _ => match evalOp P (evA G (tget T)) (viewG (mget M)) (n0 + 4 * i) o with
      | some (r', obs) => some ({ r' with val := r.val }, .eq r'.val r.val :: obs)
      | none => none
  | none => match evalOp P (evA G (tget T)) (viewG (mget M)) (n0 + 4 * i) o with
    | some (r, obs) => if sym.contains i then some (r, obs) else if obs.all Ob.dec then some (r, []) else none
    | none => none
theorem allOb_dec : ∀ {obs : List Ob}, obs.all Ob.dec = true → AllOb P obs
  | [], _ => trivial
  | b :: bs, h => by
    rw [List.all_cons, Bool.and_eq_true] at h
    exact ⟨Ob.holds_of_dec h.1, allOb_dec h.2⟩
theorem stepRes0_ok {sym : List Nat} {orc : List (Nat × Res)} {n0 i : Nat} {T : List AV} {M : List (Nat × Blk)} {o : Oper} {r : Res} {obs : List Ob} (h : stepRes0 P G sym orc n0 i T M o = some (r, obs)) (hb : AllOb P obs) : OpOK0 P G o (evA G (tget T)) (viewG (mget M)) r := by
  unfold stepRes0 at h
  split at h
  · split at h
    · rename_i c ho
      split at h
      · rename_i f args hc
        cases h
        exact evCall_ok ho hc hb.1
      · split at h
        · rename_i r' obs' he
          cases h
          have e : r'.val = _ := hb.1
          have := evalOp_ok (G := G) he hb.2
          rw [← e]
          exact this
        · cases h
    · split at h
      · rename_i r' obs' he
        cases h
        have e : r'.val = _ := hb.1
        have := evalOp_ok (G := G) he hb.2
        rw [← e]
        exact this
      · cases h
  · split at h
    · rename_i r' obs' he
      split at h
      · cases h; exact evalOp_ok he hb
      · split at h
        · rename_i hd; cases h; exact evalOp_ok he (allOb_dec hd)
        · cases h
    · cases h
def stepRes (P : Program) (G : Nat → Option Nat) (sym : List Nat) (orc : List (Nat × Res)) (n0 i : Nat) (T : List AV) (M : List (Nat × Blk)) (o : Oper) : Option (Res × List Ob) :=
  match stepRes0 P G sym orc n0 i T M o with
  | some (r, obs) => match r.upd.all (fun x => !x.2.isOld) with
    | true => match r.rd.any (isOldK (mget M)) with
      | true => if oldOk (evA G (tget T)) (mget M) o (isOldK (mget M)) r then some (r, obs) else none
      | false => some (r, obs)
    | false => none
  | none => match evRow P (evA G (tget T)) (mget M) (n0 + 4 * i) o with
    | some (r, obs) => match orc.lookup i with
      | some r0 => some ({ r with val := r0.val }, .eq r.val r0.val :: obs)
      | none => if sym.contains i then some (r, obs) else if obs.all Ob.dec then some (r, []) else none
    | none => none
theorem stepRes_ok {W : World} {X : Nat → Prop} {sym : List Nat} {orc : List (Nat × Res)} {n0 i : Nat} {T : List AV} {M : List (Nat × Blk)} {o : Oper} {r : Res} {obs : List Ob} (h : stepRes P G sym orc n0 i T M o = some (r, obs)) (hb : AllOb P obs) : OpOK P G W X o (evA G (tget T)) (mget M) r := by
  unfold stepRes at h
  split at h
  · rename_i r' obs' h0
    split at h
    · rename_i hu
      have hu' : ∀ k b, (k, b) ∈ r'.upd → b.isOld = false := fun k b hkb => by simpa using List.all_eq_true.1 hu (k, b) hkb
      split at h
      · split at h
        · rename_i ho; cases h; exact (stepRes0_ok h0 hb).old ho hu'
        · cases h
      · rename_i hr
        cases h
        refine ((stepRes0_ok (G := G) h0 hb).congr fun k hk => ?_).up hu'
        have hn : isOldK (mget M) k = false := by
          rw [List.any_eq_false] at hr
          simpa using hr k hk
        unfold viewG
        split
        · rename_i cs e; unfold isOldK at hn; rw [e] at hn; cases hn
        · rfl
    · cases h
  · split at h
    · rename_i r' obs' he
      split at h
      · rename_i r0 _
        cases h
        have e : r'.val = r0.val := hb.1
        have := evRow_ok (G := G) (W := W) (X := X) he hb.2
        rw [← e]
        exact this
      · split at h
        · cases h; exact evRow_ok he hb
        · split at h
          · rename_i hd; cases h; exact evRow_ok he (allOb_dec hd)
          · cases h
    · cases h
def goOps (P : Program) (G : Nat → Option Nat) (ops0 : Array Oper) (sym : List Nat) (orc : List (Nat × Res)) (n0 : Nat) : List Oper → Nat → List AV → List (Nat × Blk) → Option (List AV × List (Nat × Blk) × List Res × List Ob)
  | [], _, T, M => some (T, M, [], [])
  | o :: os, i, T, M =>
    match wantA ops0 (tget T) o with
    | none => none
    | some false => if dstB T o.dst then
        match goOps P G ops0 sym orc n0 os (i + 1) (setT T o.dst (.ex undef)) M with
        | some (T', M', rs, obs) => some (T', M', { val := .ex undef } :: rs, obs)
        | none => none
      else none
    | some true => match stepRes P G sym orc n0 i T M o with
      | some (r, obs) => if wfB r M (n0 + 4 * i) (n0 + 4 * i + 4) && dstB T o.dst then
          match goOps P G ops0 sym orc n0 os (i + 1) (setT T o.dst r.val) (applyM r M) with
          | some (T', M', rs, obs') => some (T', M', r :: rs, obs ++ obs')
          | none => none
        else none
      | none => none
theorem allOb_append : ∀ {a b : List Ob}, AllOb P (a ++ b) → AllOb P a ∧ AllOb P b
  | [], _, h => ⟨trivial, h⟩
  | _ :: _, _, h => ⟨⟨h.1, (allOb_append h.2).1⟩, (allOb_append h.2).2⟩
theorem dstB_lt {T : List AV} {d : Option Tmp} (h : dstB T d = true) : ∀ e, d = some e → e < T.length := fun e he => by
  subst he; exact blt_lt h
theorem length_setT (T : List AV) (d : Option Tmp) (x : AV) : (setT T d x).length = T.length := by cases d <;> simp [setT]
theorem goOps_sound {W : World} {X : Nat → Prop} {ops : Array Oper} {sym : List Nat} {orc : List (Nat × Res)} {n0 : Nat} {T0 : Nat → AV} {M0 : Nat → Option Blk} (rs : Nat → Res) (N : Nat) :
    ∀ (os : List Oper) (i : Nat) (T : List AV) (M : List (Nat × Blk)) (T' : List AV) (M' : List (Nat × Blk)) (rl : List Res) (obs : List Ob),
      goOps P G ops sym orc n0 os i T M = some (T', M', rl, obs) → AllOb P obs → (∀ j, os[j]? = ops[i + j]?) → (∀ j r, rl[j]? = some r → rs (i + j) = r) → T.length = N →
      (∀ t, tget T t = vT ops rs all1 T0 i t) → (∀ k, mget M k = vM rs all1 M0 i k) →
      (∀ j o, i ≤ j → ops[j]? = some o → (wantA ops (vT ops rs all1 T0 j) o = some true ∧ OpOK P G W X o (evA G (vT ops rs all1 T0 j)) (vM rs all1 M0 j) (rs j)) ∨ (wantA ops (vT ops rs all1 T0 j) o = some false ∧ rs j = { val := .ex undef })) ∧
      (∀ j, i ≤ j → j < ops.size → Wf (rs j) (vM rs all1 M0 j) (n0 + 4 * j) (n0 + 4 * j + 4)) ∧ (∀ j d, i ≤ j → dstAt ops j = some d → d < N) ∧
      T'.length = N ∧ rl.length = os.length ∧ (∀ t, tget T' t = vT ops rs all1 T0 (i + os.length) t) ∧ (∀ k, mget M' k = vM rs all1 M0 (i + os.length) k) := by
  intro os
  induction os with
  | nil =>
    intro i T M T' M' rl obs h hb hos hrs hN hT hM
    cases h
    have hnone : ∀ j, i ≤ j → ops[j]? = none := fun j hj => by
      have := hos (j - i)
      rw [show i + (j - i) = j by omega] at this
      rw [← this]; rfl
    refine ⟨(fun j o hj ho => by rw [hnone j hj] at ho; cases ho), fun j hj hlt => ?_, (fun j d hj hd => by simp [dstAt, hnone j hj] at hd), hN, rfl, hT, hM⟩
    have := hnone j hj
    rw [Array.getElem?_eq_none_iff] at this
    omega
  | cons o os ih =>
    intro i T M T' M' rl obs h hb hos hrs hN hT hM
    have ho : ops[i]? = some o := by have := hos 0; simpa using this.symm
    have hfT : tget T = vT ops rs all1 T0 i := funext hT
    have hfM : mget M = vM rs all1 M0 i := funext hM
    -- one step of the updates
    have stepT : ∀ t, vT ops rs all1 T0 (i + 1) t = if o.dst = some t then (rs i).val else vT ops rs all1 T0 i t := fun t => by
      have hd : dstAt ops i = o.dst := by simp [dstAt, ho]
      simp only [vT, vG, all1, if_true, uT, hd]
      split <;> simp
    have stepM : ∀ k, vM rs all1 M0 (i + 1) k = ((rs i).at k).getD (vM rs all1 M0 i k) := fun k => by simp [vM, vG, all1]
    have hdst : ∀ d, dstAt ops i = some d ↔ o.dst = some d := fun d => by simp [dstAt, ho]
    simp only [goOps] at h
    split at h
    · cases h
    · rename_i hw
      split at h
      · rename_i hd
        split at h
        · rename_i T1 M1 rl1 obs1 h1
          cases h
          have hri : rs i = { val := .ex undef } := by have := hrs 0 _ rfl; simpa using this
          have := ih (i + 1) _ _ _ _ _ _ h1 hb (fun j => by have := hos (j + 1); rw [List.getElem?_cons_succ] at this; rw [this]; congr 1; omega)
            (fun j r hj => by have := hrs (j + 1) r (by simpa using hj); rw [← this]; congr 1; omega) (by rw [length_setT]; exact hN)
            (fun t => by rw [tget_set _ _ _ _ (dstB_lt hd), stepT, hri, hT]) (fun k => by rw [stepM, hri, hM]; simp [Res.at])
          obtain ⟨g1, g2, g3, g4, g5, g6, g7⟩ := this
          refine ⟨fun j o' hj ho' => ?_, fun j hj hlt => ?_, fun j d hj hdd => ?_, g4, by simp [g5], fun t => ?_, fun k => ?_⟩
          · rcases Nat.eq_or_lt_of_le hj with rfl | hj
            · rw [ho] at ho'; cases ho'
              exact .inr ⟨by rw [← hfT]; exact hw, hri⟩
            · exact g1 j o' hj ho'
          · rcases Nat.eq_or_lt_of_le hj with rfl | hj
            · rw [hri]
              exact ⟨(fun _ h => nomatch h), (fun _ h => nomatch h), (fun _ h => nomatch h), (fun k b h => by simp [Res.at] at h), (fun k h => by simp [Res.at] at h), (fun _ h => nomatch h)⟩
            · exact g2 j hj hlt
          · rcases Nat.eq_or_lt_of_le hj with rfl | hj
            · rw [← hN]; exact dstB_lt hd d ((hdst d).1 hdd)
            · exact g3 j d hj hdd
          · rw [g6, List.length_cons]; congr 1; omega
          · rw [g7, List.length_cons]; congr 1; omega
        · cases h
      · cases h
    · rename_i hw
      split at h
      · rename_i r obs0 hr
        split at h
        · rename_i hd
          rw [Bool.and_eq_true] at hd
          split at h
          · rename_i T1 M1 rl1 obs1 h1
            cases h
            obtain ⟨hb0, hb1⟩ := allOb_append hb
            have hri : rs i = r := by have := hrs 0 _ rfl; simpa using this
            have := ih (i + 1) _ _ _ _ _ _ h1 hb1 (fun j => by have := hos (j + 1); rw [List.getElem?_cons_succ] at this; rw [this]; congr 1; omega)
              (fun j r hj => by have := hrs (j + 1) r (by simpa using hj); rw [← this]; congr 1; omega) (by rw [length_setT]; exact hN)
              (fun t => by rw [tget_set _ _ _ _ (dstB_lt hd.2), stepT, hri, hT]) (fun k => by rw [mget_apply, stepM, hri, hM])
            obtain ⟨g1, g2, g3, g4, g5, g6, g7⟩ := this
            refine ⟨fun j o' hj ho' => ?_, fun j hj hlt => ?_, fun j d hj hdd => ?_, g4, by simp [g5], fun t => ?_, fun k => ?_⟩
            · rcases Nat.eq_or_lt_of_le hj with rfl | hj
              · rw [ho] at ho'; cases ho'
                refine .inl ⟨by rw [← hfT]; exact hw, ?_⟩
                rw [hri, ← hfT, ← hfM]
                exact stepRes_ok hr hb0
              · exact g1 j o' hj ho'
            · rcases Nat.eq_or_lt_of_le hj with rfl | hj
              · rw [hri, ← hfM]; exact wfB_sound hd.1
              · exact g2 j hj hlt
            · rcases Nat.eq_or_lt_of_le hj with rfl | hj
              · rw [← hN]; exact dstB_lt hd.2 d ((hdst d).1 hdd)
              · exact g3 j d hj hdd
            · rw [g6, List.length_cons]; congr 1; omega
            · rw [g7, List.length_cons]; congr 1; omega
          · cases h
        · cases h
      · cases h

/-! the order -/
def touched (r : Res) : List Nat := r.upd.map (·.1) ++ r.kill
def meets (a b : List Nat) : Bool := a.any fun x => b.contains x
def dstL (ops : Array Oper) (i : Nat) : List Nat := (dstAt ops i).toList
def confB (ops : Array Oper) (rs : Nat → Res) (i j : Nat) : Bool :=
  meets (dstL ops i) (looks ops j) || meets (dstL ops i) (dstL ops j) || meets (dstL ops j) (looks ops i) ||
  meets (touched (rs i)) ((rs j).rd) || meets (touched (rs i)) (touched (rs j)) || meets ((rs i).rd) (touched (rs j))
theorem at_touched {r : Res} {k : Nat} (h : r.at k ≠ none) : k ∈ touched r := by
  unfold touched
  simp only [Res.at] at h
  split at h
  · exact List.mem_append_right _ (by assumption)
  · cases hl : r.upd.lookup k with
    | none => rw [hl] at h; exact absurd rfl h
    | some b => exact List.mem_append_left _ (List.mem_map.2 ⟨_, lookup_mem hl, rfl⟩)
theorem meets_of {a b : List Nat} {x : Nat} (h1 : x ∈ a) (h2 : x ∈ b) : meets a b = true := by
  unfold meets
  exact List.any_eq_true.2 ⟨x, h1, by simpa using h2⟩
theorem confB_of {ops : Array Oper} {rs : Nat → Res} {i j : Nat} (h : Conf ops rs i j ∨ Conf ops rs j i) : confB ops rs i j = true := by
  have dm : ∀ {i d}, dstAt ops i = some d → d ∈ dstL ops i := fun h => by simp [dstL, h]
  unfold confB
  simp only [Bool.or_eq_true]
  rcases h with h | h <;> rcases h with ⟨d, h1, h2⟩ | ⟨d, h1, h2⟩ | ⟨k, h1, h2⟩ | ⟨k, h1, h2⟩
  · rcases h2 with h2 | h2
    · exact .inl (.inl (.inl (.inl (.inl (meets_of (dm h1) h2)))))
    · exact .inl (.inl (.inl (.inl (.inr (meets_of (dm h1) (dm h2))))))
  · exact .inl (.inl (.inl (.inr (meets_of (dm h1) h2))))
  · rcases h2 with h2 | h2
    · exact .inl (.inl (.inr (meets_of (at_touched h1) h2)))
    · exact .inl (.inr (meets_of (at_touched h1) (at_touched h2)))
  · exact .inr (meets_of h1 (at_touched h2))
  · rcases h2 with h2 | h2
    · exact .inl (.inl (.inl (.inr (meets_of (dm h1) h2))))
    · exact .inl (.inl (.inl (.inl (.inr (meets_of (dm h2) (dm h1))))))
  · exact .inl (.inl (.inl (.inl (.inl (meets_of (dm h1) h2)))))
  · rcases h2 with h2 | h2
    · exact .inr (meets_of h2 (at_touched h1))
    · exact .inl (.inr (meets_of (at_touched h2) (at_touched h1)))
  · exact .inl (.inl (.inr (meets_of (at_touched h2) h1)))
/-- What an operation writes and looks at: its temporaries, its keys. -/
structure Info where
  d : List Nat
  lk : List Nat
  tc : List Nat
  rd : List Nat
def infoOf (ops : Array Oper) (rs : Nat → Res) (i : Nat) : Info := ⟨dstL ops i, looks ops i, touched (rs i), (rs i).rd⟩
def confI (a b : Info) : Bool :=
  meets a.d b.lk || meets a.d b.d || meets b.d a.lk || meets a.tc b.rd || meets a.tc b.tc || meets a.rd b.tc
/-- Against each one ahead: its number falls from n. -/
def rowI (x : Info) (m : Nat) : List Info → Nat → Bool
  | [], _ => true
  | y :: l, i => (!confI y x || m.testBit i) && rowI x m l (i + 1)
def frcN {β : Type} : List Nat → (List Nat → β) → β
  | [], k => k []
  | x :: l, k => if Nat.ble x x then frcN l fun l => k (x :: l) else k []
theorem frcN_eq {β : Type} : ∀ (l : List Nat) (k : List Nat → β), frcN l k = k l
  | [], _ => rfl
  | x :: l, k => by
    have : Nat.ble x x = true := Nat.ble_self_eq_true x
    rw [frcN, if_pos this, frcN_eq l]
def frcI {β : Type} (x : Info) (k : Info → β) : β := frcN x.d fun d => frcN x.lk fun lk => frcN x.tc fun tc => frcN x.rd fun rd => k ⟨d, lk, tc, rd⟩
theorem frcI_eq {β : Type} (x : Info) (k : Info → β) : frcI x k = k x := by simp only [frcI, frcN_eq]
def allI (ops : Array Oper) (rs : Nat → Res) : List Nat → Nat → List Info → Bool
  | [], _, _ => true
  | m :: ms, j, seen => frcI (infoOf ops rs j) fun x => rowI x m seen 0 && allI ops rs ms (j + 1) (seen ++ [x])
theorem rowI_get {x : Info} {m : Nat} : ∀ {l : List Info} {i : Nat}, rowI x m l i = true → ∀ j y, l[j]? = some y → confI y x = true → m.testBit (i + j) = true
  | y :: l, i, h, j, z, hj, hc => by
    simp only [rowI, Bool.and_eq_true] at h
    cases j with
    | zero =>
      simp at hj; subst hj
      rw [hc] at h
      simpa using h.1
    | succ j =>
      have := rowI_get h.2 j z (by simpa using hj) hc
      rwa [show i + 1 + j = i + (j + 1) by omega] at this
theorem allI_get {ops : Array Oper} {rs : Nat → Res} : ∀ {ms : List Nat} {j : Nat} {seen : List Info}, allI ops rs ms j seen = true → seen.length = j → (∀ i, i < j → seen[i]? = some (infoOf ops rs i)) →
    ∀ i k m, i < j + k → ms[k]? = some m → confI (infoOf ops rs i) (infoOf ops rs (j + k)) = true → m.testBit i = true
  | m0 :: ms, j, seen, h, hl, hs, i, k, m, hi, hk, hc => by
    simp only [allI, frcI_eq, Bool.and_eq_true] at h
    cases k with
    | zero =>
      simp at hk; subst hk
      have := rowI_get h.1 i _ (hs i (by simpa using hi)) hc
      simpa using this
    | succ k =>
      refine allI_get h.2 (by simp [hl]) (fun i' hi' => ?_) i k m (by omega) (by simpa using hk) (by rw [show j + 1 + k = j + (k + 1) by omega]; exact hc)
      rcases Nat.lt_or_ge i' j with h' | h'
      · rw [List.getElem?_append_left (by omega)]; exact hs i' h'
      · have : i' = j := by omega
        subst this
        rw [List.getElem?_append_right (by omega), hl]; simp
def ordB (ops : Array Oper) (rs : Nat → Res) : Bool :=
  (List.range ops.size).all (fun i => match ops[i]? with | some o => o.after.toList.all (fun e => !Region.binds .any e || Nat.blt e.on i) | none => true) &&
  Nat.beq (clo ops.toList).length ops.size && frcN (clo ops.toList) fun cl => allI ops rs cl 0 []
theorem ordB_sound {ops : Array Oper} {rs : Nat → Res} (h : ordB ops rs = true) : OrdOK ops rs := by
  unfold ordB at h
  rw [Bool.and_eq_true, Bool.and_eq_true, frcN_eq] at h
  obtain ⟨⟨h1, h0⟩, h2⟩ := h
  have h0 : (clo ops.toList).length = ops.size := Nat.eq_of_beq_eq_true h0
  refine ⟨fun i o ho e he hb => ?_, fun i j hij hj hc => ?_⟩
  · have := List.all_eq_true.1 h1 i (List.mem_range.2 (Array.getElem?_eq_some_iff.1 ho).1)
    rw [ho] at this
    have := List.all_eq_true.1 this e (by simpa using he)
    rw [hb] at this
    exact blt_lt this
  · have hjl : j < (clo ops.toList).length := by omega
    have := allI_get h2 rfl (fun i hi => by omega) i j (clo ops.toList)[j] (by omega) (by simp [hjl]) (by rw [Nat.zero_add]; exact confB_of hc)
    rw [List.getD_eq_getElem?_getD, List.getElem?_eq_getElem hjl]
    exact this
end
end Go.Proofs.YtdfbcdgneboilaaDoor.Ab
