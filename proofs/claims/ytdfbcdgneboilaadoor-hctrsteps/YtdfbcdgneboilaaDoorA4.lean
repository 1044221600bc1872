/- Own: calls, followed in the abstract heap (no statement is proved here). -/
import Derived.Test.YtdfbcdgneboilaaDoorA6
namespace Go.Proofs.YtdfbcdgneboilaaDoor.Ab
open Go.RowKit

section
variable {P : Program}
structure St where
  T : List AV
  M : List (Nat × Blk)
  n : Nat
/-- What a call is followed against. -/
structure Cx (P : Program) where
  G : List (Nat × Nat)
  X : Nat → Prop
  B : Base
  f : FuncId
  R : Ending → World → Prop
  hm : P.follows .mixedOrders = true
def ASat (c : Cx P) (st : St) (a : Act) (w : World) : Prop := ∃ ρ, MSat (fun g => c.G.lookup g) c.X c.B st.T.length (tget st.T) (mget st.M) (fun k => st.n ≤ k) ρ a w
/-- From here on the call comes to its end as asked. -/
def AG (c : Cx P) (todo : List Item) (st : St) : Prop :=
  ∀ a w, ASat c st a w → ∀ (b : Frame) (cs : List Frame), b.fn = c.f → b.kind = .normal →
    ∃ e w' fr, c.R e w' ∧ Comes P (lone (b.at a todo) cs w) (lone fr cs w') e ∧ fr.fn = c.f ∧ fr.leaving P w' e
theorem AG.step {c : Cx P} {todo todo' : List Item} {st : St} (h : AG c todo' st)
    (hs : ∀ a w, ASat c st a w → ∀ (b : Frame) (cs : List Frame), step P (lone (b.at a todo) cs w) = .next (lone (b.at a todo') cs w)) : AG c todo st := by
  intro a w hsat b cs hf hk
  obtain ⟨e, w', fr, h1, h2, h3⟩ := h a w hsat b cs hf hk
  exact ⟨e, w', fr, h1, Comes.of_steps (.one (hs a w hsat b cs)) h2, h3⟩
def evC (c : Cx P) (st : St) : Operand → AV := evA (fun g => c.G.lookup g) (tget st.T)
def pick2 (b : Bool) (t e : Code) : Code := match b with
  | true => t
  | false => e
theorem cond_step {c : Cx P} {x : Operand} {t e : Code} {k : List Item} {st : St} {b : Bool} (hb : evC c st x = .ex (.bool b)) :
    ∀ a w, ASat c st a w → ∀ (fr : Frame) (cs : List Frame), step P (lone (fr.at a (.code (.cond x t e) :: k)) cs w) = .next (lone (fr.at a (.code (pick2 b t e) :: k)) cs w) := by
  intro a w ⟨ρ, h⟩ fr cs
  have hr := h.eval x
  unfold evC at hb
  rw [hb] at hr
  rw [step_cond (bool_of_rel hr)]
  cases b <;> rfl
def ctl (c : Cx P) (st : St) : List Item → Option (List Item)
  | .code .skip :: k => some k
  | .code (.label _) :: k => some k
  | .inBlock _ :: k => some k
  | .inScope _ :: k => some k
  | .code (.seq x y) :: k => some (.code x :: .code y :: k)
  | .code (.cond x t e) :: k => match evC c st x with
    | .ex (.bool b) => some (.code (pick2 b t e) :: k)
    | _ => none
  | .code (.block id x) :: k => some (.code x :: .inBlock id :: k)
  | .code (.loop x) :: k => some (.code x :: .inLoop x :: k)
  | .inLoop x :: k => some (.code x :: .inLoop x :: k)
  | .code (.scope x) :: k => some (.code x :: .inScope x :: k)
  | .code (.exit id) :: k => exitTo id k
  | .code (.goto l) :: k => gotoIn l k
  | _ => none
theorem AG.ctl {c : Cx P} {todo todo' : List Item} {st : St} (h : ctl c st todo = some todo') (hk : AG c todo' st) : AG c todo st := by
  unfold Go.Proofs.YtdfbcdgneboilaaDoor.Ab.ctl at h
  split at h
  · cases h; exact hk.step fun _ _ _ _ _ => step_skip
  · cases h; exact hk.step fun _ _ _ _ _ => step_label
  · cases h; exact hk.step fun _ _ _ _ _ => step_inBlock
  · cases h; exact hk.step fun _ _ _ _ _ => step_inScope
  · cases h; exact hk.step fun _ _ _ _ _ => step_seq
  · split at h
    · rename_i b hb
      cases h
      exact hk.step (cond_step hb)
    · cases h
  · cases h; exact hk.step fun _ _ _ _ _ => step_block
  · cases h; exact hk.step fun _ _ _ _ _ => step_loop
  · cases h; exact hk.step fun _ _ _ _ _ => step_inLoop
  · cases h; exact hk.step fun _ _ _ _ _ => step_scope
  · exact hk.step fun _ _ _ _ _ => step_exit h
  · exact hk.step fun _ _ _ _ _ => step_goto h
  · cases h
theorem AG.cond {c : Cx P} {x : Operand} {t e : Code} {k : List Item} {st : St} {b : Bool} (hb : evC c st x = .ex (.bool b)) (ht : b = true → AG c (.code t :: k) st) (hf : b = false → AG c (.code e :: k) st) : AG c (.code (.cond x t e) :: k) st := by
  cases b with
  | true => exact (ht rfl).step (cond_step hb)
  | false => exact (hf rfl).step (cond_step hb)
/-- A list, put down cell by cell. -/
def frc {α β : Type} : List α → (List α → β) → β
  | [], k => k []
  | x :: l, k => frc l fun l => k (x :: l)
theorem frc_eq {α β : Type} : ∀ (l : List α) (k : List α → β), frc l k = k l
  | [], _ => rfl
  | x :: l, k => by rw [frc, frc_eq l]
def evalRegion (c : Cx P) (sym : List Nat) (orc : List (Nat × Res)) (ops : Array Oper) (d : Bool) (st : St) : Option (St × List Ob) :=
  match goOps P (fun g => c.G.lookup g) ops sym orc st.n ops.toList 0 st.T st.M with
  | some (T', M', rl, obs) => if !d || ordB ops (fun i => rl.getD i { val := .j }) then frc T' fun T' => frc M' fun M' => some (⟨T', M', st.n + 4 * ops.size⟩, obs) else none
  | none => none
theorem AG.region {c : Cx P} {id : Nat} {ops : Array Oper} {d : Bool} {k : List Item} {st st' : St} {obs : List Ob} (sym : List Nat) (orc : List (Nat × Res)) (h : evalRegion c sym orc ops d st = some (st', obs)) (hb : AllOb P obs)
    (hk : AG c k st') : AG c (.code (.region id ops d) :: k) st := by
  unfold evalRegion at h
  split at h
  · rename_i T' M' rl obs' hg
    split at h
    · rename_i hd
      rw [frc_eq, frc_eq] at h
      cases h
      obtain ⟨g1, g2, g3, g4, g5, g6, g7⟩ := goOps_sound (W := c.B.w) (X := c.X) (T0 := tget st.T) (M0 := mget st.M) (fun i => rl.getD i { val := .j }) st.T.length ops.toList 0 st.T st.M T' M' rl obs hg hb (fun j => by simp) (fun j r hj => by simp [List.getD, hj]) rfl (fun t => rfl) (fun k => rfl)
      have hok : OpsOK P c.B.w c.X ops (fun i => rl.getD i { val := .j }) (fun g => c.G.lookup g) st.T.length st.n (tget st.T) (mget st.M) :=
        ⟨fun i o ho => g1 i o (Nat.zero_le _) ho, fun i hi => g2 i (Nat.zero_le _) hi, fun i d hd => g3 i d (Nat.zero_le _) hd⟩
      intro a w hsat b cs hf hkd
      have hQ : ∀ a w, InvL ops (fun i => rl.getD i { val := .j }) (fun g => c.G.lookup g) c.X c.B st.T.length st.n (tget st.T) (mget st.M) all1 a w → ASat c ⟨T', M', st.n + 4 * ops.size⟩ a w := by
        intro a w ⟨ρ, h⟩
        have e1 : vT ops (fun i => rl.getD i { val := .j }) all1 (tget st.T) ops.size = tget T' := funext fun t => by have := g6 t; simp at this; exact this.symm
        have e2 : vM (fun i => rl.getD i { val := .j }) all1 (mget st.M) ops.size = mget M' := funext fun t => by have := g7 t; simp at this; exact this.symm
        rw [e1, e2] at h
        refine ⟨ρ, ?_⟩
        have hl : st.T.length = T'.length := g4.symm
        rw [hl] at h
        exact ⟨h.tsz, h.tmp, h.df, h.mem, h.inj, fun k hk => h.fresh k ⟨by simp only at hk; omega, fun i hi _ hn => by have := (hok.wf i hi).nks k hn; simp only at hk; omega⟩, h.glob, h.own, h.old, h.fr, h.base⟩
      have hwp : (Code.region id ops d).wp P (fun e a w => e = .normal ∧ ASat c ⟨T', M', st.n + 4 * ops.size⟩ a w) a w := by
        cases d with
        | false => exact region_seq hok (fun a w h => ⟨rfl, hQ a w h⟩) hsat
        | true => exact region_any c.hm hok (ordB_sound (by simpa using hd)) (fun a w h => ⟨rfl, hQ a w h⟩) hsat
      obtain ⟨e, a', w', ⟨rfl, hs⟩, harr⟩ := hwp b k cs
      obtain ⟨e, w'', fr, h1, h2, h3⟩ := hk a' w' hs b cs hf hkd
      exact ⟨e, w'', fr, h1, Comes.of_steps harr h2, h3⟩
    · cases h
  · cases h
/-- So many steps in which nothing is left open. -/
def runs (c : Cx P) : Nat → List Item → St → Option (List Item × St)
  | 0, todo, st => some (todo, st)
  | n + 1, todo, st => match todo with
    | .code (.region _ ops d) :: k => match evalRegion c [] [] ops d st with
      | some (st', []) => runs c n k st'
      | _ => none
    | todo => match ctl c st todo with
      | some todo' => runs c n todo' st
      | none => none
theorem AG.run {c : Cx P} : ∀ (n : Nat) {todo todo' : List Item} {st st' : St}, runs c n todo st = some (todo', st') → AG c todo' st' → AG c todo st
  | 0, todo, todo', st, st', h, hk => by cases h; exact hk
  | n + 1, todo, todo', st, st', h, hk => by
    unfold runs at h
    split at h
    · split at h
      · rename_i st1 hr
        exact AG.region [] [] hr trivial (AG.run n h hk)
      · cases h
    · split at h
      · rename_i hc; exact AG.ctl hc (AG.run n h hk)
      · cases h
theorem AG.conv {c : Cx P} {todo : List Item} {st st' : St} (h : st = st') (hk : AG c todo st') : AG c todo st := h ▸ hk
/-- What comes back to a place comes to an end if a number falls. -/
theorem AG.ind {c : Cx P} {todo : List Item} {α : Type} (μ : α → Nat) (S : α → St) (h : ∀ x, (∀ y, μ y < μ x → AG c todo (S y)) → AG c todo (S x)) (x : α) : AG c todo (S x) := by
  generalize hn : μ x = n
  induction n using Nat.strongRecOn generalizing x with
  | _ n ih => exact h x fun y hy => ih (μ y) (hn ▸ hy) y rfl
end

section
variable {P : Program}
/-- All keys of a value are such. -/
def keyB (S : Nat → Bool) : Nat → AV → Bool
  | 0, _ => false
  | _ + 1, .ex _ => true
  | _ + 1, .j => true
  | _ + 1, .p k _ => S k
  | _ + 1, .s k _ _ _ => S k
  | _ + 1, .sv k _ _ => S k
  | _ + 1, .o k _ _ => S k
  | _ + 1, .f _ ks => ks.all S
  | d + 1, .agg l => l.all (keyB S d)
  | d + 1, .tup l => l.all (keyB S d)
theorem Rel.on_keys {ρ ρ' : Rho} {S : Nat → Bool} (h : ∀ k l, S k = true → ρ k = some l → ρ' k = some l) : ∀ (d : Nat) {x : AV} {v : Value}, keyB S d x = true → Rel ρ x v → Rel ρ' x v
  | 0, _, _, hk, _ => by simp [keyB] at hk
  | d + 1, x, v, hk, r => by
    cases r with
    | ex v => exact .ex v
    | j v => exact .j v
    | p e => exact .p (h _ _ hk e)
    | s e => exact .s (h _ _ hk e)
    | sn => exact .sn
    | sv e c => exact .sv (h _ _ hk e) c
    | svn => exact .svn
    | o e c1 c2 => exact .o (h _ _ hk e) c1 c2
    | on e c => exact .on (h _ _ hk e) c
    | f e c => exact .f e fun i k v h1 h2 => let ⟨l, h3, h4⟩ := c i k v h1 h2; ⟨l, h _ _ (List.all_eq_true.1 hk k (List.mem_of_getElem? h1)) h3, h4⟩
    | agg e c => exact .agg e fun i x v h1 h2 => Rel.on_keys h d (List.all_eq_true.1 hk x (List.mem_of_getElem? h1)) (c i x v h1 h2)
    | tup e c => exact .tup e fun i x v h1 h2 => Rel.on_keys h d (List.all_eq_true.1 hk x (List.mem_of_getElem? h1)) (c i x v h1 h2)
def blkB (S : Nat → Bool) : Blk → Bool
  | .mix cs => cs.all (keyB S 3)
  | .mixv cs => cs.all (keyB S 3)
  | .rowA _ cs => cs.all (keyB S 3)
  | _ => true
theorem BRel.on_keys {ρ ρ' : Rho} {S : Nat → Bool} (h : ∀ k l, S k = true → ρ k = some l → ρ' k = some l) {w : World} {k : Nat} {b : Blk} (hk : S k = true) (hb : blkB S b = true) (r : BRel ρ w k b) : BRel ρ' w k b := by
  cases b with
  | own cs => obtain ⟨l, h1, h2⟩ := r; exact ⟨l, h _ _ hk h1, h2⟩
  | view cs => obtain ⟨l, h1, h2⟩ := r; exact ⟨l, h _ _ hk h1, h2⟩
  | row cs => obtain ⟨l, h1, h2⟩ := r; exact ⟨l, h _ _ hk h1, h2⟩
  | rowX s cs => obtain ⟨l, h1, h2⟩ := r; exact ⟨l, h _ _ hk h1, h2⟩
  | old cs => obtain ⟨l, h1, h2⟩ := r; exact ⟨l, h _ _ hk h1, h2⟩
  | rows ls => obtain ⟨l, h1, h2⟩ := r; exact ⟨l, h _ _ hk h1, h2⟩
  | mix cs =>
    obtain ⟨l, vs, h1, h2, h3, h4, h5⟩ := r
    exact ⟨l, vs, h _ _ hk h1, h2, h3, h4, h5.1, fun i x v g1 g2 => (h5.2 i x v g1 g2).on_keys h 3 (List.all_eq_true.1 hb x (List.mem_of_getElem? g1))⟩
  | mixv cs =>
    obtain ⟨l, vs, h1, h2, h3, h4, h5⟩ := r
    exact ⟨l, vs, h _ _ hk h1, h2, h3, h4, h5.1, fun i x v g1 g2 => (h5.2 i x v g1 g2).on_keys h 3 (List.all_eq_true.1 hb x (List.mem_of_getElem? g1))⟩
  | rowA s cs =>
    obtain ⟨l, vs, h1, h2, h5, h3⟩ := r
    exact ⟨l, vs, h _ _ hk h1, h2, ⟨h5.1, fun i x v g1 g2 => (h5.2 i x v g1 g2).on_keys h 3 (List.all_eq_true.1 hb x (List.mem_of_getElem? g1))⟩, h3⟩
/-- What is kept: these temporaries, these blocks; keys are counted from n on. -/
def keepT (ts : List Nat) : List AV → Nat → List AV
  | [], _ => []
  | x :: l, i => (if ts.contains i then x else .j) :: keepT ts l (i + 1)
def pickM (M : List (Nat × Blk)) : List Nat → List (Nat × Blk)
  | [] => []
  | k :: ks => match mget M k with
    | some b => (k, b) :: pickM M ks
    | none => pickM M ks
theorem pickM_get {M : List (Nat × Blk)} {k : Nat} {b : Blk} : ∀ {ks : List Nat}, mget (pickM M ks) k = some b → mget M k = some b ∧ ks.contains k = true
  | [], h => by cases h
  | j :: ks, h => by
    unfold pickM at h
    split at h
    · rename_i b' hb
      unfold mget at h
      rw [List.lookup_cons] at h
      split at h
      · rename_i e
        have e : k = j := by simpa using e
        subst e
        cases h
        exact ⟨hb, by simp⟩
      · have := pickM_get (ks := ks) h
        exact ⟨this.1, by simp only [List.contains_cons, this.2, Bool.or_true]⟩
    · have := pickM_get (ks := ks) h
      exact ⟨this.1, by simp only [List.contains_cons, this.2, Bool.or_true]⟩
def keepS (ts ks : List Nat) (n : Nat) (st : St) : St := ⟨keepT ts st.T 0, pickM st.M ks, n⟩
def inS (ks : List Nat) (nb : Nat) (k : Nat) : Bool := ks.contains k || Nat.blt k nb
def keepOk (c : Cx P) (ks : List Nat) (n : Nat) (st : St) : Bool :=
  st.T.all (keyB (inS ks c.B.nb) 4) && st.M.all (fun x => blkB (inS ks c.B.nb) x.2) && ks.all (fun k => Nat.blt k n) && Nat.ble c.B.nb n && c.G.all (fun x => Nat.blt x.2 c.B.nb)
theorem tget_keep (ts : List Nat) : ∀ (l : List AV) (i t : Nat), tget (keepT ts l i) t = tget l t ∨ tget (keepT ts l i) t = .j
  | [], i, t => by simp [keepT]
  | x :: l, i, t => by
    cases t with
    | zero =>
      simp only [keepT, tget, List.getD_cons_zero]
      split
      · exact .inl rfl
      · exact .inr rfl
    | succ t =>
      have := tget_keep ts l (i + 1) t
      simpa [keepT, tget] using this
theorem length_keepT (ts : List Nat) : ∀ (l : List AV) (i : Nat), (keepT ts l i).length = l.length
  | [], _ => rfl
  | x :: l, i => by simp [keepT, length_keepT ts l]
theorem lookup_mem' {α : Type} {k : Nat} {b : α} : ∀ {l : List (Nat × α)}, l.lookup k = some b → (k, b) ∈ l
  | (k', b') :: l, h => by
    rw [List.lookup_cons] at h
    split at h
    · rename_i e
      cases h
      have : k = k' := by simpa using e
      subst this
      exact List.mem_cons_self
    · exact List.mem_cons_of_mem _ (lookup_mem' h)
theorem AG.keep {c : Cx P} {todo : List Item} {st st' : St} (ts ks : List Nat) (n : Nat) (h : keepS ts ks n st = st') (hok : keepOk c ks n st' = true) (hk : AG c todo st') : AG c todo st := by
  intro a w ⟨ρ, hs⟩
  refine hk a w ?_
  subst h
  unfold keepOk at hok
  simp only [Bool.and_eq_true] at hok
  obtain ⟨⟨⟨⟨o1, o2⟩, o3⟩, o4⟩, o5⟩ := hok
  have hle : c.B.nb ≤ n := Nat.le_of_ble_eq_true o4
  have keep : ∀ k l, inS ks c.B.nb k = true → ρ k = some l → (fun k => if inS ks c.B.nb k then ρ k else none) k = some l := fun k l hk e => by simp only [hk, if_true]; exact e
  have back : ∀ {k l}, (if inS ks c.B.nb k then ρ k else none) = some l → ρ k = some l := fun {k l} e => by split at e; exact e; cases e
  have hM : ∀ k b, mget (pickM st.M ks) k = some b → mget st.M k = some b ∧ ks.contains k = true := fun k b e => pickM_get e
  refine ⟨fun k => if inS ks c.B.nb k then ρ k else none, ⟨?_, ?_, hs.df, ?_, ?_, ?_, ?_, ?_, ?_, hs.fr, ?_⟩⟩
  · simp only [keepS, length_keepT]; exact hs.tsz
  · intro t
    show Rel _ (tget (keepT ts st.T 0) t) _
    rcases tget_keep ts st.T 0 t with e | e
    · have hkey : keyB (inS ks c.B.nb) 4 (tget (keepT ts st.T 0) t) = true := by
        by_cases ht : t < (keepT ts st.T 0).length
        · refine List.all_eq_true.1 o1 _ ?_
          simp only [keepS, tget, List.getD_eq_getElem?_getD, List.getElem?_eq_getElem ht, Option.getD_some]
          exact List.getElem_mem _
        · simp [tget, List.getElem?_eq_none (Nat.le_of_not_lt ht), keyB]
      rw [e] at hkey ⊢
      exact (hs.tmp t).on_keys keep 4 hkey
    · rw [e]; exact .j _
  · intro k b hb
    obtain ⟨e1, e2⟩ := hM k b hb
    refine (hs.mem k b e1).on_keys keep (by unfold inS; rw [e2]; rfl) ?_
    exact List.all_eq_true.1 o2 (k, b) (lookup_mem' hb)
  · intro k k' b b' l l' hne hb hb' hw hl hl' h1 h2
    exact hs.inj k k' b b' l l' hne (hM k b hb).1 (hM k' b' hb').1 hw (back hl) (back hl') h1 h2
  · intro k hk
    have : inS ks c.B.nb k = false := by
      have h1 : n ≤ k := hk
      have h2 : ks.contains k = false := by
        cases hc : ks.contains k with
        | false => rfl
        | true =>
          have := List.all_eq_true.1 o3 k (by simpa using hc)
          have := blt_lt this
          omega
      have h3 : Nat.blt k c.B.nb = false := by
        cases hc : Nat.blt k c.B.nb with
        | false => rfl
        | true => have := blt_lt hc; omega
      unfold inS
      rw [h2, h3]; rfl
    simp only [this, Bool.false_eq_true, if_false]
  · intro g k hg
    obtain ⟨l, h1, h2⟩ := hs.glob g k hg
    refine ⟨l, keep k l ?_ h1, h2⟩
    have := List.all_eq_true.1 o5 (g, k) (lookup_mem' hg)
    unfold inS
    rw [this, Bool.or_true]
  · intro k b l hb hw hl hc
    exact hs.own k b l (hM k b hb).1 hw (back hl) hc
  · intro k b hb
    exact (hs.old k b (hM k b hb).1).mono fun l e => keep k l (by unfold inS; rw [(hM k b hb).2]; rfl) e
  · intro k l e
    refine keep k l ?_ (hs.base k l e)
    have : k < c.B.nb := by
      rcases Nat.lt_or_ge k c.B.nb with h | h
      · exact h
      · rw [c.B.hb k h] at e; cases e
    have : Nat.blt k c.B.nb = true := Nat.ble_eq_true_of_le this
    unfold inS
    rw [this, Bool.or_true]

/-! ## the end -/
def resA (P : Program) (ev : Operand → AV) (m : Nat → Option Blk) : List ResultVar → Option (List AV × List Ob)
  | [] => some ([], [])
  | .tmp t :: rs => match resA P ev m rs with
    | some (l, obs) => some (ev (.tmp t) :: l, obs)
    | none => none
  | .cell a t :: rs => match evLoad P ev m t (.tmp a), resA P ev m rs with
    | some (r, ob), some (l, obs) => some (r.val :: l, ob ++ obs)
    | _, _ => none
def tupA : List AV → AV
  | [x] => x
  | l => .tup l
def resOne (a : Act) : ResultVar → Sem Value
  | .tmp t => pure (a.tmps.getD t undef)
  | .cell b t => do loadVar t (← asAddr (a.tmps.getD b undef))
theorem resA_run {c : Cx P} {st : St} {ρ : Rho} {a : Act} {w : World} (hs : MSat (fun g => c.G.lookup g) c.X c.B st.T.length (tget st.T) (mget st.M) (fun k => st.n ≤ k) ρ a w) :
    ∀ (rs : List ResultVar) (l : List AV) (obs : List Ob), resA P (evC c st) (mget st.M) rs = some (l, obs) → AllOb P obs →
      ∃ vs, RelL ρ l vs ∧ (rs.mapM (resOne a)).run P w = Result.ok vs w
  | [], l, obs, h, _ => by cases h; exact ⟨[], ⟨rfl, fun i x v h => by simp at h⟩, rfl⟩
  | .tmp t :: rs, l, obs, h, hb => by
    simp only [resA] at h
    split at h
    · rename_i l' obs' h'
      cases h
      obtain ⟨vs, h1, h2⟩ := resA_run hs rs l' obs h' hb
      refine ⟨a.tmps.getD t undef :: vs, ⟨by simp [h1.1], fun i x v g1 g2 => ?_⟩, ?_⟩
      · cases i with
        | zero => simp only [List.getElem?_cons_zero, Option.some.injEq] at g1 g2; subst g1 g2; exact hs.tmp t
        | succ i => exact h1.2 i x v (by simpa using g1) (by simpa using g2)
      · rw [List.mapM_cons]
        simp only [resOne, Sem.run_bind, Sem.run_pure, Result.andThen_ok, h2]
    · cases h
  | .cell b t :: rs, l, obs, h, hb => by
    simp only [resA] at h
    split at h
    · rename_i r ob l' obs' he h'
      cases h
      obtain ⟨hb1, hb2⟩ := allOb_append hb
      obtain ⟨vs, h1, h2⟩ := resA_run hs rs l' obs' h' hb2
      obtain ⟨ad, v, e1, e2, e3, e4⟩ := evLoad_run he hb1 ρ a w (hs.eval (.tmp b)) (fun k _ b hb => hs.mem k b hb)
      have e1 : a.tmps.getD b undef = .pointer (some ad) := e1
      refine ⟨v :: vs, ⟨by simp [h1.1], fun i x u g1 g2 => ?_⟩, ?_⟩
      · cases i with
        | zero => simp only [List.getElem?_cons_zero, Option.some.injEq] at g1 g2; subst g1 g2; exact e3
        | succ i => exact h1.2 i x u (by simpa using g1) (by simpa using g2)
      · rw [List.mapM_cons]
        simp only [resOne, Sem.run_bind, e1, asAddr, Sem.run_pure, Result.andThen_ok, e2, h2]
    · cases h
def tupV : List Value → Value
  | [x] => x
  | l => .tuple l.toArray
theorem results_run {fn : Func} {a : Act} {w : World} {vs : List Value} (h : (fn.results.toList.mapM (resOne a)).run P w = Result.ok vs w) :
    (results fn a.tmps).run P w = .ok (tupV vs) w := by
  have e : results fn a.tmps = (do let vs ← fn.results.mapM (resOne a); pure (if h : vs.size = 1 then vs[0] else .tuple vs)) := by
    unfold results
    congr 2
  have e2 : (fn.results.mapM (resOne a)).run P w = .ok vs.toArray w := by
    rw [Array.mapM_eq_mapM_toList]
    simp only [Sem.run_map, h, Result.andThen_ok]
  rw [e]
  simp only [Sem.run_bind, e2, Result.andThen_ok, Sem.run_pure]
  match vs with
  | [] => rfl
  | [x] => rfl
  | x :: y :: l => simp [tupV]
theorem rel_tup {ρ : Rho} {l : List AV} {vs : List Value} (h : RelL ρ l vs) : Rel ρ (tupA l) (tupV vs) := by
  match l, vs, h with
  | [], [], h => exact .tup h.1 h.2
  | [x], [v], h => exact h.2 0 x v rfl rfl
  | x :: y :: l, u :: v :: vs, h => exact .tup h.1 h.2
  | [], _ :: _, h => have := h.1; simp at this
  | _ :: _, [], h => have := h.1; simp at this
  | [_], _ :: _ :: _, h => have := h.1; simp at this
  | _ :: _ :: _, [_], h => have := h.1; simp at this
/-- The keys that a call writes, where they lay when it began. -/
def wroteX (B : Base) (ks : List Nat) (b : Nat) : Prop := ∃ k ∈ ks, ∃ l, B.ρ k = some l ∧ l.c ≠ 0 ∧ l.b = b
def cxOf (hm : P.follows .mixedOrders = true) (G : List (Nat × Nat)) (f : FuncId) (r : Res) (B : Base) : Cx P :=
  { G := G, X := wroteX B r.wks, B := B, f := f, R := fun e w' => ∃ v ρ', e = .returned v ∧ StepOf B.ρ B.w r v ρ' w', hm := hm }
def endB (nb : Nat) (r : Res) (M : List (Nat × Blk)) : Bool :=
  keyB (inS r.nks nb) 4 r.val && r.upd.all (fun x => inS r.nks nb x.1 && blkB (inS r.nks nb) x.2) && r.nks.all (fun k => (match mget M k with | some b => b.wr | none => false) && !r.wks.contains k && Nat.ble nb k) && r.wks.all (fun k => (r.kill.contains k || match mget M k with | some b => b.wr | none => false) && Nat.blt k nb)
theorem AG.ret {hm : P.follows .mixedOrders = true} {G : List (Nat × Nat)} {f : FuncId} {r : Res} {B : Base} {todo : List Item} {st : St} {l : List AV} {obs : List Ob} (fn : Func) (hf : P.funcs[f]? = some fn) (ht : todo = [] ∨ ∃ k, todo = .code .ret :: k)
    (hres : resA P (evC (cxOf hm G f r B) st) (mget st.M) fn.results.toList = some (l, obs)) (hob : AllOb P obs) (hv : tupA l = r.val) (hu : ∀ k b, (k, b) ∈ r.upd → mget st.M k = some b) (hB : endB B.nb r st.M = true) :
    AG (cxOf hm G f r B) todo st := by
  intro a w ⟨ρ, hs⟩ b cs hbf hbk
  obtain ⟨vs, h1, h2⟩ := resA_run hs fn.results.toList l obs hres hob
  have hrun := results_run (fn := fn) h2
  have hrel := rel_tup h1
  rw [hv] at hrel
  unfold endB at hB
  simp only [Bool.and_eq_true] at hB
  obtain ⟨⟨⟨b1, b2⟩, b3⟩, b4⟩ := hB
  have nk : ∀ k ∈ r.nks, ∃ b, mget st.M k = some b ∧ b.wr = true := fun k hk => by
    have := List.all_eq_true.1 b3 k hk
    simp only [Bool.and_eq_true] at this
    have := this.1.1
    split at this
    · rename_i b' e; exact ⟨b', e, this⟩
    · cases this
  have wk : ∀ k ∈ r.wks, k ∉ r.kill → ∃ b, mget st.M k = some b ∧ b.wr = true := fun k hk hnk => by
    have := List.all_eq_true.1 b4 k hk
    simp only [Bool.and_eq_true, Bool.or_eq_true] at this
    rcases this.1 with this | this
    · exact absurd (by simpa using this) hnk
    · split at this
      · rename_i b' e; exact ⟨b', e, this⟩
      · cases this
  have keep : ∀ k l, inS r.nks B.nb k = true → ρ k = some l → (if k ∈ r.nks then ρ k else B.ρ k) = some l := fun k l hk e => by
    split
    · exact e
    · rename_i hn
      have hlt : k < B.nb := by
        unfold inS at hk
        rw [Bool.or_eq_true] at hk
        rcases hk with h | h
        · exact absurd (by simpa using h) hn
        · exact blt_lt h
      obtain ⟨l', hl'⟩ := B.hd k hlt
      have := hs.base k l' hl'
      rw [e] at this; cases this
      exact hl'
  have back : ∀ {k l}, k ∈ r.nks → (if k ∈ r.nks then ρ k else B.ρ k) = some l → ρ k = some l := fun {k l} hk e => by rwa [if_pos hk] at e
  refine ⟨.returned _, w, { b.at a todo with mode := .returning }, ⟨_, fun k => if k ∈ r.nks then ρ k else B.ρ k, rfl, ⟨?_, ?_, ?_, ?_, ?_, ?_, ?_⟩⟩, ?_, hbf, rfl, hs.df, hbk, fn, by show P.funcs[b.fn]? = _; rw [hbf]; exact hf, hrun⟩
  · intro k l e
    show (if k ∈ r.nks then ρ k else B.ρ k) = some l
    split
    · exact hs.base k l e
    · exact e
  · intro k hk
    show (if k ∈ r.nks then ρ k else B.ρ k) = _
    rw [if_neg hk]
  · exact hrel.on_keys keep 4 b1
  · intro k b hkb
    have := List.all_eq_true.1 b2 _ hkb
    simp only [Bool.and_eq_true] at this
    exact (hs.mem k b (hu k b hkb)).on_keys keep this.1 this.2
  · refine ⟨hs.fr.os, hs.fr.tape, hs.fr.output, hs.fr.size, fun b hb hx => hs.fr.block b hb ?_⟩
    rintro ⟨k, hk, l, hl, hc, e⟩
    exact hx k hk l hl hc e
  · intro k hk l hl hc
    have hl' := back hk hl
    obtain ⟨b', hb', hw'⟩ := nk k hk
    refine ⟨(hs.mem k b' hb').lt hl' hc, ?_⟩
    rcases hs.own k b' l hb' hw' hl' hc with h | ⟨k2, hk2, l2, hl2, hc2, e⟩
    · exact .inl h
    · by_cases hkill : k2 ∈ r.kill
      · exact .inr ⟨k2, hkill, l2, hl2, hc2, e⟩
      exfalso
      obtain ⟨b2, hb2, hw2⟩ := wk k2 hk2 hkill
      have hne : k ≠ k2 := fun e => by
        have := List.all_eq_true.1 b3 k hk
        simp only [Bool.and_eq_true] at this
        rw [e] at this
        have := this.1.2
        simp at this
        exact this hk2
      exact hs.inj k k2 b' b2 l l2 hne hb' hb2 hw' hl' (hs.base k2 l2 hl2) hc hc2 e.symm
  · intro k hk k' hk' hne l l' hl hl' hc hc'
    obtain ⟨b1, hb1, hw1⟩ := nk k hk
    obtain ⟨b2, hb2, hw2⟩ := nk k' hk'
    exact hs.inj k k' b1 b2 l l' hne hb1 hb2 hw1 (back hk hl) (back hk' hl') hc hc'
  · show Steps P _ _
    rcases ht with rfl | ⟨k, rfl⟩
    · exact .one step_end
    · exact .one step_ret

/-! ## the entry -/
def entB (nb : Nat) (G : List (Nat × Nat)) (args : List AV) (M : List (Nat × Blk)) (r : Res) : Bool :=
  args.all (keyB (inS [] nb) 4) && M.all (fun x => Nat.blt x.1 nb && blkB (inS [] nb) x.2) && (List.range nb).all (fun k => (mget M k).isSome) && r.nks.all (fun k => Nat.ble nb k) && G.all (fun x => Nat.blt x.2 nb) &&
  r.wks.all (fun k => match mget M k with | some b => b.wr | none => false) && M.all (fun x => !x.2.wr || r.wks.contains x.1)
theorem CallOK.of_AG (hm : P.follows .mixedOrders = true) {G : List (Nat × Nat)} {f : FuncId} {fn : Func} {code : Code} {args : List AV} {M : List (Nat × Blk)} {r : Res} (nb : Nat) (hf : P.funcs[f]? = some fn) (hb : fn.body = some code) (hB : entB nb G args M r = true) 
    (h : ∀ (w : World) (ρ : Rho) (h1 : ∀ k, nb ≤ k → ρ k = none) (h2 : ∀ k, k < nb → ∃ l, ρ k = some l), AG (cxOf hm G f r ⟨w, ρ, nb, h1, h2⟩) [.code code] ⟨args ++ List.replicate (fn.ntmps - args.length) .j, M, nb⟩) : CallOK P (fun g => G.lookup g) f args M r := by
  intro ρ w vs hargs hM hnew hinj hG hO
  unfold entB at hB
  simp only [Bool.and_eq_true] at hB
  obtain ⟨⟨⟨⟨⟨⟨b1, b2⟩, b3⟩, b4⟩, b5⟩, b6⟩, b7⟩ := hB
  -- the map, cut at nb
  have hin : ∀ k, inS [] nb k = true → k < nb := fun k hk => by simp only [inS, List.contains_nil, Bool.false_or] at hk; exact blt_lt hk
  have keep : ∀ k l, inS [] nb k = true → ρ k = some l → (if k < nb then ρ k else none) = some l := fun k l hk e => by rw [if_pos (hin k hk)]; exact e
  have back : ∀ {k l}, (if k < nb then ρ k else none) = some l → ρ k = some l ∧ k < nb := fun {k l} e => by split at e; exact ⟨e, by assumption⟩; cases e
  have memM : ∀ k b, mget M k = some b → (k, b) ∈ M := fun k b e => lookup_mem' e
  have hd : ∀ k, k < nb → ∃ l, (if k < nb then ρ k else none) = some l := fun k hk => by
    have := List.all_eq_true.1 b3 k (List.mem_range.2 hk)
    cases hg : mget M k with
    | none => rw [hg] at this; cases this
    | some b => obtain ⟨l, hl⟩ := (hM k b (memM k b hg)).loc; exact ⟨l, by rw [if_pos hk]; exact hl⟩
  have hcalls : Calls P f vs.toArray w fun e w' => ∃ v ρ', e = .returned v ∧ StepOf (fun k => if k < nb then ρ k else none) w r v ρ' w' := by
    intro cs
    let b : Frame := { (default : Frame) with fn := f, kind := .normal }
    have hl : vs.length = args.length := hargs.1.symm
    have henter : Frame.enter P f vs.toArray .normal = b.at { tmps := vs.toArray ++ Array.replicate (fn.ntmps - vs.toArray.size) undef, defers := [] } [.code code] := by
      simp [Frame.enter, Frame.at, hf, hb, b]
    have := h w (fun k => if k < nb then ρ k else none) (fun k hk => if_neg (by omega)) hd { tmps := vs.toArray ++ Array.replicate (fn.ntmps - vs.toArray.size) undef, defers := [] } w ?_ b cs rfl rfl
    · rw [henter]; exact this
    · refine ⟨fun k => if k < nb then ρ k else none, ⟨?_, ?_, rfl, ?_, ?_, ?_, ?_, ?_, ?_, ⟨rfl, rfl, rfl, Nat.le_refl _, fun _ _ _ => rfl⟩, Rho.le_refl _⟩⟩
      · simp [hl]
      · intro t
        have ht : (vs.toArray ++ Array.replicate (fn.ntmps - vs.toArray.size) undef).getD t undef = (vs ++ List.replicate (fn.ntmps - vs.length) undef).getD t undef := by
          simp only [Array.getD_eq_getD_getElem?, List.getD_eq_getElem?_getD, List.size_toArray]
          congr 1
          rw [← Array.getElem?_toList]
          simp
        show Rel _ (tget (args ++ List.replicate (fn.ntmps - args.length) .j) t) _
        rw [ht]
        simp only [tget, List.getD_eq_getElem?_getD]
        rcases Nat.lt_or_ge t args.length with hlt | hge
        · rw [List.getElem?_append_left hlt, List.getElem?_append_left (by omega), List.getElem?_eq_getElem hlt, List.getElem?_eq_getElem (by omega)]
          exact (hargs.2 t _ _ (by simp [hlt]) (by simp [hl, hlt])).on_keys keep 4 (List.all_eq_true.1 b1 _ (List.getElem_mem _))
        · rw [List.getElem?_append_right hge, List.getElem?_append_right (by omega), hl]
          rcases Nat.lt_or_ge (t - args.length) (fn.ntmps - args.length) with h' | h'
          · rw [List.getElem?_replicate, List.getElem?_replicate, if_pos h', if_pos h']; exact .j _
          · rw [List.getElem?_replicate, List.getElem?_replicate, if_neg (by omega), if_neg (by omega)]; exact .j _
      · intro k b hk
        have hm' := memM k b hk
        have := List.all_eq_true.1 b2 _ hm'
        simp only [Bool.and_eq_true] at this
        exact (hM k b hm').on_keys keep (by simp only [inS, List.contains_nil, Bool.false_or]; exact this.1) this.2
      · intro k k' b b' l l' hne hk hk' hw hl1 hl2 hc1 hc2
        exact hinj k k' b b' l l' (memM k b hk) (memM k' b' hk') hne hw (back hl1).1 (back hl2).1 hc1 hc2
      · intro k hk
        exact if_neg (by have : nb ≤ k := hk; omega)
      · intro g k hg
        obtain ⟨l, h1, h2⟩ := hG g k hg
        have := blt_lt (List.all_eq_true.1 b5 (g, k) (lookup_mem' hg))
        exact ⟨l, by show (if k < nb then ρ k else none) = some l; rw [if_pos this]; exact h1, h2⟩
      · intro k b l hk hw hl hc
        refine .inr ⟨k, ?_, l, hl, hc, rfl⟩
        have := List.all_eq_true.1 b7 _ (memM k b hk)
        rw [hw] at this
        simpa using this
      · intro k b hk
        have hm' := memM k b hk
        have hb2 := List.all_eq_true.1 b2 _ hm'
        simp only [Bool.and_eq_true] at hb2
        refine ((hO k b hm').now (X := wrote ρ r.wks) ⟨rfl, rfl, rfl, Nat.le_refl _, fun _ _ _ => rfl⟩ fun bl _ hn hy => hn ?_).mono fun l e => keep k l (by simp only [inS, List.contains_nil, Bool.false_or]; exact hb2.1) e
        obtain ⟨k', g1, l, g2, g3⟩ := hy
        exact ⟨k', g1, l, (back g2).1, g3⟩
  refine hcalls.mono ?_
  rintro e w' ⟨v, ρ', rfl, hs⟩
  have hnb : ∀ k ∈ r.nks, nb ≤ k := fun k hk => Nat.le_of_ble_eq_true (List.all_eq_true.1 b4 k hk)
  have le' : ∀ k l, ρ' k = some l → (if k ∈ r.nks then ρ' k else ρ k) = some l := fun k l e => by
    split
    · exact e
    · rename_i hn
      rw [hs.same k hn] at e
      exact (back e).1
  refine ⟨v, fun k => if k ∈ r.nks then ρ' k else ρ k, rfl, ⟨?_, ?_, hs.val.mono le', ?_, ?_, ?_, ?_⟩⟩
  · intro k l e
    show (if k ∈ r.nks then ρ' k else ρ k) = some l
    split
    · rename_i hn; rw [hnew k hn] at e; cases e
    · exact e
  · intro k hk; exact if_neg hk
  · intro k b hkb
    exact (hs.upd k b hkb).keep le' fun _ _ _ _ => rfl
  · refine ⟨hs.fr.os, hs.fr.tape, hs.fr.output, hs.fr.size, fun b hb hx => hs.fr.block b hb fun k hk l hl hc => hx k hk l (back hl).1 hc⟩
  · intro k hk l hl hc
    have hl : (if k ∈ r.nks then ρ' k else ρ k) = some l := hl
    rw [if_pos hk] at hl
    obtain ⟨g1, g2⟩ := hs.new k hk l hl hc
    exact ⟨g1, g2.imp id fun ⟨k', hk', l', hl', hr⟩ => ⟨k', hk', l', (back hl').1, hr⟩⟩
  · intro k hk k' hk' hne l l' hl hl' hc hc'
    have hl : (if k ∈ r.nks then ρ' k else ρ k) = some l := hl
    have hl' : (if k' ∈ r.nks then ρ' k' else ρ k') = some l' := hl'
    rw [if_pos hk] at hl
    rw [if_pos hk'] at hl'
    exact hs.dist k hk k' hk' hne l l' hl hl' hc hc'
end

section
variable {P : Program}
/-- Where a callee's keys lie among its caller's: a key and an offset. -/
abbrev KMap := List (Nat × Nat × Nat)
def trK (mp : Nat → Option (Nat × Nat)) (k : Nat) : Nat := match mp k with
  | some (k', _) => k'
  | none => k
def trA (mp : Nat → Option (Nat × Nat)) : Nat → AV → AV
  | 0, x => x
  | _ + 1, .p k o => match mp k with | some (k', d) => .p k' (d + o) | none => .p k o
  | _ + 1, .s k o n c => match mp k with | some (k', d) => .s k' (d + o) n c | none => .s k o n c
  | _ + 1, .sv k o n => match mp k with | some (k', d) => .sv k' (d + o) n | none => .sv k o n
  | _ + 1, .o k o n => .o (trK mp k) o n
  | _ + 1, .f fn ks => .f fn (ks.map (trK mp))
  | d + 1, .agg l => .agg (l.map (trA mp d))
  | d + 1, .tup l => .tup (l.map (trA mp d))
  | _ + 1, x => x
/-- Every key is mapped; rows and captured ones without an offset. -/
def trOk (E : Nat → Bool) (mp : Nat → Option (Nat × Nat)) : Nat → AV → Bool
  | 0, _ => false
  | _ + 1, .p k _ => (mp k).isSome
  | _ + 1, .s k _ _ _ => (mp k).isSome
  | _ + 1, .sv k _ _ => (mp k).isSome
  | _ + 1, .o k _ _ => !E k && match mp k with | some (_, d) => Nat.beq d 0 | none => false
  | _ + 1, .f _ ks => ks.all fun k => match mp k with | some (_, d) => Nat.beq d 0 | none => false
  | d + 1, .agg l => l.all (trOk E mp d)
  | d + 1, .tup l => l.all (trOk E mp d)
  | _ + 1, _ => true
theorem mp_zero {mp : Nat → Option (Nat × Nat)} {k : Nat} (h : (match mp k with | some (_, d) => Nat.beq d 0 | none => false) = true) : ∃ k', mp k = some (k', 0) ∧ trK mp k = k' := by
  cases hm : mp k with
  | none => rw [hm] at h; cases h
  | some x =>
    obtain ⟨k', d⟩ := x
    rw [hm] at h
    have : d = 0 := by simpa using h
    subst this
    exact ⟨k', rfl, by simp [trK, hm]⟩
theorem Rel.tr {E : Nat → Bool} {mp : Nat → Option (Nat × Nat)} {ρc ρ : Rho} (h : ∀ k k' d lc, mp k = some (k', d) → ρc k = some lc → ∃ l, ρ k' = some l ∧ lc.b = l.b ∧ lc.d = l.d + d ∧ (E k = false → lc.c = l.c)) : ∀ (n : Nat) {x : AV} {v : Value}, trOk E mp n x = true → Rel ρc x v → Rel ρ (trA mp n x) v
  | 0, _, _, hk, _ => by simp [trOk] at hk
  | n + 1, x, v, hk, r => by
    cases r with
    | ex v => exact .ex v
    | j v => exact .j v
    | p e =>
      simp only [trOk, Option.isSome_iff_exists] at hk
      obtain ⟨⟨k', d⟩, hk⟩ := hk
      obtain ⟨l, h1, h2, h3, _⟩ := h _ _ _ _ hk e
      simp only [trA, hk]
      rw [h2, h3, Nat.add_assoc]; exact .p h1
    | s e =>
      simp only [trOk, Option.isSome_iff_exists] at hk
      obtain ⟨⟨k', d⟩, hk⟩ := hk
      obtain ⟨l, h1, h2, h3, _⟩ := h _ _ _ _ hk e
      simp only [trA, hk]
      rw [h2, h3, Nat.add_assoc]; exact .s h1
    | sn =>
      simp only [trOk, Option.isSome_iff_exists] at hk
      obtain ⟨⟨k', d⟩, hk⟩ := hk
      simp only [trA, hk]
      exact .sn
    | sv e c =>
      simp only [trOk, Option.isSome_iff_exists] at hk
      obtain ⟨⟨k', d⟩, hk⟩ := hk
      obtain ⟨l, h1, h2, h3, _⟩ := h _ _ _ _ hk e
      simp only [trA, hk]
      rw [h2, h3, Nat.add_assoc]; exact .sv h1 c
    | svn =>
      simp only [trOk, Option.isSome_iff_exists] at hk
      obtain ⟨⟨k', d⟩, hk⟩ := hk
      simp only [trA, hk]
      exact .svn
    | o e c1 c2 =>
      simp only [trOk, Bool.and_eq_true] at hk
      obtain ⟨k', e1, e2⟩ := mp_zero hk.2
      obtain ⟨l, h1, h2, h3, h4⟩ := h _ _ _ _ e1 e
      have h4 := h4 (by simpa using hk.1)
      simp only [trA, e2]
      rw [h2, h4]
      exact .o h1 (by omega) (by omega)
    | on e c =>
      simp only [trOk, Bool.and_eq_true] at hk
      obtain ⟨k', e1, e2⟩ := mp_zero hk.2
      obtain ⟨l, h1, h2, h3, h4⟩ := h _ _ _ _ e1 e
      have h4 := h4 (by simpa using hk.1)
      simp only [trA, e2]
      exact .on h1 (by omega)
    | f e c =>
      simp only [trA]
      refine .f (by simp [e]) fun i k v g1 g2 => ?_
      rw [List.getElem?_map] at g1
      cases hi : (‹List Nat›)[i]? with
      | none => rw [hi] at g1; cases g1
      | some k0 =>
        rw [hi] at g1
        cases g1
        obtain ⟨k', e1, e2⟩ := mp_zero (List.all_eq_true.1 hk k0 (List.mem_of_getElem? hi))
        obtain ⟨lc, g3, g4⟩ := c i k0 v hi g2
        obtain ⟨l, h1, h2, h3, h4⟩ := h _ _ _ _ e1 g3
        refine ⟨l, by rw [e2]; exact h1, ?_⟩
        rw [g4, h2, h3, Nat.add_zero]
    | agg e c =>
      simp only [trA]
      refine .agg (by simp [e]) fun i x v g1 g2 => ?_
      rw [List.getElem?_map] at g1
      cases hi : (‹List AV›)[i]? with
      | none => rw [hi] at g1; cases g1
      | some y =>
        rw [hi] at g1
        cases g1
        exact Rel.tr h n (List.all_eq_true.1 hk y (List.mem_of_getElem? hi)) (c i y v hi g2)
    | tup e c =>
      simp only [trA]
      refine .tup (by simp [e]) fun i x v g1 g2 => ?_
      rw [List.getElem?_map] at g1
      cases hi : (‹List AV›)[i]? with
      | none => rw [hi] at g1; cases g1
      | some y =>
        rw [hi] at g1
        cases g1
        exact Rel.tr h n (List.all_eq_true.1 hk y (List.mem_of_getElem? hi)) (c i y v hi g2)
def trBlk (mp : Nat → Option (Nat × Nat)) : Blk → Blk
  | .mix cs => .mix (cs.map (trA mp 3))
  | .mixv cs => .mixv (cs.map (trA mp 3))
  | .rowA s cs => .rowA s (cs.map (trA mp 3))
  | b => b
def trBOk (E : Nat → Bool) (mp : Nat → Option (Nat × Nat)) : Blk → Bool
  | .mix cs => cs.all (trOk E mp 3)
  | .mixv cs => cs.all (trOk E mp 3)
  | .rowA _ cs => cs.all (trOk E mp 3)
  | _ => true
/-- Captured variables of one closure are those of another. -/
def capsB (mp : Nat → Option (Nat × Nat)) : List Nat → List Nat → Bool
  | [], [] => true
  | a :: as, b :: bs => (match mp a with | some (k, d) => Nat.beq k b && Nat.beq d 0 | none => false) && capsB mp as bs
  | _, _ => false
theorem capsB_get {mp : Nat → Option (Nat × Nat)} : ∀ {as bs : List Nat}, capsB mp as bs = true → as.length = bs.length ∧ ∀ (i a b : Nat), as[i]? = some a → bs[i]? = some b → mp a = some (b, 0)
  | [], [], _ => ⟨rfl, fun i a b h => by simp at h⟩
  | a :: as, b :: bs, h => by
    simp only [capsB, Bool.and_eq_true] at h
    have ih := capsB_get h.2
    refine ⟨by simp [ih.1], fun i a' b' h1 h2 => ?_⟩
    cases i with
    | zero =>
      simp only [List.getElem?_cons_zero, Option.some.injEq] at h1 h2
      subst h1 h2
      have h0 := h.1
      split at h0
      · rename_i k d hm
        simp only [Bool.and_eq_true] at h0
        rw [hm, Nat.eq_of_beq_eq_true h0.1, Nat.eq_of_beq_eq_true h0.2]
      · cases h0
    | succ i => exact ih.2 i a' b' (by simpa using h1) (by simpa using h2)
  | [], _ :: _, h => by simp [capsB] at h
  | _ :: _, [], h => by simp [capsB] at h
/-- How a caller's argument meets a callee's. -/
inductive Fit (E : Nat → Bool) (mp : Nat → Option (Nat × Nat)) : AV → AV → Prop where
  | ex (v : Value) : Fit E mp (.ex v) (.ex v)
  | j (x : AV) : Fit E mp .j x
  | p {k0 k d o : Nat} : mp k0 = some (k, d) → Fit E mp (.p k0 o) (.p k (d + o))
  | s {k0 k d o n c : Nat} : mp k0 = some (k, d) → Fit E mp (.s k0 o n c) (.s k (d + o) n c)
  | vs {k0 k d o n c : Nat} : mp k0 = some (k, d) → n ≤ c → Fit E mp (.sv k0 o n) (.s k (d + o) n c)
  | vo {k0 k d o n : Nat} : mp k0 = some (k, d) → Fit E mp (.sv k0 o n) (.o k (d + o) n)
  | vv {k0 k d o n : Nat} : mp k0 = some (k, d) → Fit E mp (.sv k0 o n) (.sv k (d + o) n)
  | vx {k0 o : Nat} : Fit E mp (.sv k0 o 0) (.ex (.slice none 0 0))
  | o {k0 k o n : Nat} : mp k0 = some (k, 0) → E k0 = false → Fit E mp (.o k0 o n) (.o k o n)
  | f {fn : FuncId} {cs0 cs : List Nat} : capsB mp cs0 cs = true → Fit E mp (.f fn cs0) (.f fn cs)
  | agg {l l' : List AV} : l.length = l'.length → (∀ (i : Nat) (x y : AV), l[i]? = some x → l'[i]? = some y → Fit E mp x y) → Fit E mp (.agg l) (.agg l')
inductive FitL (E : Nat → Bool) (mp : Nat → Option (Nat × Nat)) : List AV → List AV → Prop where
  | nil : FitL E mp [] []
  | cons {x y : AV} {l l' : List AV} : Fit E mp x y → FitL E mp l l' → FitL E mp (x :: l) (y :: l')
theorem FitL.get {E : Nat → Bool} {mp : Nat → Option (Nat × Nat)} {l l' : List AV} (h : FitL E mp l l') : l.length = l'.length ∧ ∀ (i : Nat) (x y : AV), l[i]? = some x → l'[i]? = some y → Fit E mp x y := by
  induction h with
  | nil => exact ⟨rfl, fun i x y h => by simp at h⟩
  | cons hf _ ih =>
    refine ⟨by simp [ih.1], fun i x y h1 h2 => ?_⟩
    cases i with
    | zero => simp at h1 h2; subst h1 h2; exact hf
    | succ i => exact ih.2 i x y (by simpa using h1) (by simpa using h2)
theorem Fit.aggL {E : Nat → Bool} {mp : Nat → Option (Nat × Nat)} {l l' : List AV} (h : FitL E mp l l') : Fit E mp (.agg l) (.agg l') := .agg h.get.1 h.get.2
/-- What a block of the caller's says of one of the callee's. -/
def Cov (E : Nat → Bool) (mp : Nat → Option (Nat × Nat)) (b : Blk) (d : Nat) : Blk → Prop
  | .mixv cs0 => ∃ cs, (b = .mix cs ∨ b = .mixv cs) ∧ d = 0 ∧ FitL E mp cs0 cs ∧ cs ≠ []
  | .view cs0 => ∃ cs, b.cells = some cs ∧ (cs.drop d).take cs0.length = cs0
  | .mix cs0 => ∃ cs, b = .mix cs ∧ d = 0 ∧ FitL E mp cs0 cs
  | .rowA s cs0 => ∃ cs, b = .rowA s cs ∧ d = 0 ∧ FitL E mp cs0 cs
  | b0 => b = b0 ∧ d = 0
/-- What a block whose cells are not all exact says of a view of some that are. -/
def CovM (b : Blk) (d : Nat) (cs0 : List Value) : Prop := cs0.isEmpty = false ∧ ∃ cs, b.mixed = some cs ∧ exAll ((cs.drop d).take cs0.length) = some cs0
inductive CovL (E : Nat → Bool) (mp : Nat → Option (Nat × Nat)) (M : List (Nat × Blk)) : List (Nat × Blk) → Prop where
  | nil : CovL E mp M []
  | cons {k0 k d : Nat} {b0 b : Blk} {l : List (Nat × Blk)} : mp k0 = some (k, d) → mget M k = some b → Cov E mp b d b0 → CovL E mp M l → CovL E mp M ((k0, b0) :: l)
  | away {k0 : Nat} {l : List (Nat × Blk)} : mp k0 = none → CovL E mp M l → CovL E mp M ((k0, .view []) :: l)
  | consm {k0 k d : Nat} {cs0 : List Value} {b : Blk} {l : List (Nat × Blk)} : mp k0 = some (k, d) → mget M k = some b → CovM b d cs0 → CovL E mp M l → CovL E mp M ((k0, .view cs0) :: l)
theorem CovL.get {E : Nat → Bool} {mp : Nat → Option (Nat × Nat)} {M M0 : List (Nat × Blk)} (h : CovL E mp M M0) {k0 : Nat} {b0 : Blk} (hm : (k0, b0) ∈ M0) : (∃ k d b, mp k0 = some (k, d) ∧ mget M k = some b ∧ Cov E mp b d b0) ∨ (mp k0 = none ∧ b0 = .view []) ∨ (∃ k d b cs0, b0 = .view cs0 ∧ mp k0 = some (k, d) ∧ mget M k = some b ∧ CovM b d cs0) := by
  induction h with
  | nil => cases hm
  | cons h1 h2 h3 _ ih =>
    rcases List.mem_cons.1 hm with e | h
    · cases e; exact .inl ⟨_, _, _, h1, h2, h3⟩
    · exact ih h
  | away h1 _ ih =>
    rcases List.mem_cons.1 hm with e | h
    · cases e; exact .inr (.inl ⟨h1, rfl⟩)
    · exact ih h
  | consm h1 h2 h3 _ ih =>
    rcases List.mem_cons.1 hm with e | h
    · cases e; exact .inr (.inr ⟨_, _, _, _, rfl, h1, h2, h3⟩)
    · exact ih h
/-- Whether a callee's block is one of no cells that it only looks at. -/
def emptyV (M0 : List (Nat × Blk)) (k : Nat) : Bool := match mget M0 k with
  | some (.view cs) => cs.isEmpty
  | _ => false
/-- The callee's map, seen from the caller's. -/
def rhoC (mp : Nat → Option (Nat × Nat)) (M0 : List (Nat × Blk)) (ρ : Rho) : Rho := fun k => match mget M0 k with
  | none => none
  | some _ => match mp k with
    | some (k', d) => match ρ k' with
      | some l => some ⟨l.b, l.d + d, if emptyV M0 k then 0 else l.c⟩
      | none => none
    | none => some ⟨0, 0, 0⟩
theorem rhoC_some {mp : Nat → Option (Nat × Nat)} {M0 : List (Nat × Blk)} {ρ : Rho} {k k' d : Nat} {lc : Loc} (hm : mp k = some (k', d)) (h : rhoC mp M0 ρ k = some lc) : ∃ l, ρ k' = some l ∧ lc.b = l.b ∧ lc.d = l.d + d ∧ (emptyV M0 k = false → lc.c = l.c) ∧ (lc.c ≠ 0 → lc.c = l.c) := by
  unfold rhoC at h
  split at h
  · cases h
  · rw [hm] at h
    simp only at h
    cases hr : ρ k' with
    | none => rw [hr] at h; cases h
    | some l =>
      rw [hr] at h
      cases h
      refine ⟨l, rfl, rfl, rfl, fun e => by simp [e], fun hc => ?_⟩
      simp only at hc ⊢
      split
      · rename_i he; rw [if_pos he] at hc; exact absurd rfl hc
      · rfl
theorem rhoC_key {mp : Nat → Option (Nat × Nat)} {M0 : List (Nat × Blk)} {ρ : Rho} {k : Nat} {lc : Loc} (h : rhoC mp M0 ρ k = some lc) : ∃ b, mget M0 k = some b := by
  unfold rhoC at h
  split at h
  · cases h
  · rename_i b hb; exact ⟨b, hb⟩
theorem rhoC_mk {mp : Nat → Option (Nat × Nat)} {M0 : List (Nat × Blk)} {ρ : Rho} {k k' d : Nat} {b0 : Blk} {l : Loc} (hm : mp k = some (k', d)) (hb : mget M0 k = some b0) (h : ρ k' = some l) : rhoC mp M0 ρ k = some ⟨l.b, l.d + d, if emptyV M0 k then 0 else l.c⟩ := by
  simp only [rhoC, hb, hm, h]
theorem fit_rel {mp : Nat → Option (Nat × Nat)} {M0 : List (Nat × Blk)} {ρ : Rho} (hk : ∀ k k' d, mp k = some (k', d) → ∃ b, mget M0 k = some b) {x y : AV} {v : Value} (h : Fit (emptyV M0) mp x y) (hr : Rel ρ y v) : Rel (rhoC mp M0 ρ) x v := by
  induction h generalizing v with
  | ex v => cases hr; exact .ex _
  | j x => exact .j _
  | p hm =>
    obtain ⟨b, hb⟩ := hk _ _ _ hm
    cases hr with
    | p e => rw [← Nat.add_assoc]; exact .p (rhoC_mk hm hb e)
  | s hm =>
    obtain ⟨b, hb⟩ := hk _ _ _ hm
    cases hr with
    | s e => rw [← Nat.add_assoc]; exact .s (rhoC_mk hm hb e)
    | sn => exact .sn
  | vs hm hc =>
    obtain ⟨b, hb⟩ := hk _ _ _ hm
    cases hr with
    | s e => rw [← Nat.add_assoc]; exact .sv (rhoC_mk hm hb e) hc
    | sn => exact .svn
  | vo hm =>
    obtain ⟨b, hb⟩ := hk _ _ _ hm
    cases hr with
    | o e h1 h2 =>
      rename_i k0 k d o n l
      have := Rel.sv (off := o) (n := n) (c := l.c - (d + o)) (rhoC_mk hm hb e) (by omega)
      simp only [h1, Nat.zero_add] at this
      exact this
    | on e h1 => exact .svn
  | vv hm =>
    obtain ⟨b, hb⟩ := hk _ _ _ hm
    cases hr with
    | sv e c => rw [← Nat.add_assoc]; exact .sv (rhoC_mk hm hb e) c
    | svn => exact .svn
  | vx => cases hr; exact .svn
  | o hm he =>
    obtain ⟨b, hb⟩ := hk _ _ _ hm
    cases hr with
    | o e h1 h2 =>
      have e' := rhoC_mk hm hb e
      rw [he] at e'
      exact .o e' (by simpa using h1) h2
    | on e h1 =>
      have e' := rhoC_mk hm hb e
      rw [he] at e'
      exact .on e' h1
  | @f fn cs0 cs hcb =>
    obtain ⟨hl, hc⟩ := capsB_get hcb
    cases hr with
    | f e c =>
      refine .f (hl.trans e) fun i k v h1 h2 => ?_
      have hi : i < cs.length := by rw [e]; exact (List.getElem?_eq_some_iff.1 h2).1
      have hm := hc i k cs[i] h1 (by simp [hi])
      obtain ⟨l, g1, g2⟩ := c i cs[i] v (by simp [hi]) h2
      obtain ⟨b, hb⟩ := hk _ _ _ hm
      exact ⟨_, rhoC_mk hm hb g1, by simpa using g2⟩
  | @agg l l' hl _ ih =>
    cases hr with
    | agg hl' hc =>
      refine .agg (hl.trans hl') fun i x v h1 h2 => ?_
      have hi : i < l'.length := by rw [hl']; exact (List.getElem?_eq_some_iff.1 h2).1
      exact ih i x l'[i] h1 (by simp [hi]) (hc i l'[i] v (by simp [hi]) h2)
def useKey (mp : KMap) (nk : Nat) (nks : List Nat) (k : Nat) : Option (Nat × Nat) := match nks.idxOf? k with
  | some i => some (nk + i, 0)
  | none => mp.lookup k
/-- What a call makes, at its caller's keys. -/
def useR (mp : KMap) (nk : Nat) (r0 : Res) : Res :=
  { val := trA (useKey mp nk r0.nks) 4 r0.val
    upd := r0.upd.map fun x => (trK (useKey mp nk r0.nks) x.1, trBlk (useKey mp nk r0.nks) x.2)
    nks := (List.range r0.nks.length).map (nk + ·)
    wks := r0.wks.map (trK (useKey mp nk r0.nks))
    kill := r0.kill.map (trK (useKey mp nk r0.nks))
    rd := mp.map (·.2.1) }
def noDup : List Nat → Bool
  | [] => true
  | x :: l => !l.contains x && noDup l
theorem noDup_get : ∀ {l : List Nat} {i j : Nat} {x : Nat}, noDup l = true → l[i]? = some x → l[j]? = some x → i = j
  | y :: l, i, j, x, h, h1, h2 => by
    simp only [noDup, Bool.and_eq_true] at h
    have hn : y ∉ l := by simpa using h.1
    cases i with
    | zero =>
      cases j with
      | zero => rfl
      | succ j => simp at h1 h2; subst h1; exact absurd (List.mem_of_getElem? h2) hn
    | succ i =>
      cases j with
      | zero => simp at h1 h2; subst h2; exact absurd (List.mem_of_getElem? h1) hn
      | succ j => simp at h1 h2; rw [noDup_get h.2 h1 h2]
theorem noDup_mget : ∀ {M : List (Nat × Blk)} {k : Nat} {b : Blk}, noDup (M.map (·.1)) = true → (k, b) ∈ M → mget M k = some b
  | (k', b') :: M, k, b, h, hm => by
    simp only [List.map_cons, noDup, Bool.and_eq_true] at h
    have hn : k' ∉ M.map (·.1) := by simpa using h.1
    unfold mget
    rw [List.lookup_cons]
    rcases List.mem_cons.1 hm with e | hm2
    · cases e; simp
    · have : (k == k') = false := by
        simp only [beq_eq_false_iff_ne, ne_eq]
        intro e; subst e
        exact hn (List.mem_map.2 ⟨(k, b), hm2, rfl⟩)
      rw [this]
      exact noDup_mget h.2 hm2
def useB (mp : KMap) (nk : Nat) (M0 : List (Nat × Blk)) (r0 : Res) : Bool :=
  trOk (emptyV M0) (useKey mp nk r0.nks) 4 r0.val && r0.upd.all (fun x => trBOk (emptyV M0) (useKey mp nk r0.nks) x.2 && (r0.nks.contains x.1 || r0.wks.contains x.1)) &&
  r0.wks.all (fun k => !emptyV M0 k && !r0.nks.contains k && (match mp.lookup k with | some (_, d) => Nat.beq d 0 | none => false)) && r0.kill.all (fun k => r0.wks.contains k) && mp.all (fun x => (mget M0 x.1).isSome) && r0.nks.all (fun k => (mget M0 k).isNone) && noDup r0.nks && noDup (M0.map (·.1))
theorem idx_get {k : Nat} : ∀ {l : List Nat} {i : Nat}, l.idxOf? k = some i → l[i]? = some k := by
  intro l i h
  rw [List.idxOf?_eq_some_iff] at h
  obtain ⟨hi, h1, _⟩ := h
  simp [hi, h1]
theorem idx_none {k : Nat} {l : List Nat} (h : l.idxOf? k = none) : k ∉ l := by
  rw [List.idxOf?_eq_none_iff] at h; exact h
theorem CallOK.use {G0 G : Nat → Option Nat} {f : FuncId} {args0 args : List AV} {M0 : List (Nat × Blk)} {r0 : Res} {Mf : List (Nat × Blk)} (mp : KMap) (nk : Nat) (h : CallOK P G0 f args0 M0 r0)
    (hfit : FitL (emptyV M0) (fun k => mp.lookup k) args0 args) (hcov : CovL (emptyV M0) (fun k => mp.lookup k) Mf M0) (hB : useB mp nk M0 r0 = true)
    (hG : ∀ g k0, G0 g = some k0 → ∃ k, mp.lookup k0 = some (k, 0) ∧ G g = some k) (hnd : ∀ k k' b b', (k, b) ∈ M0 → (k', b') ∈ M0 → k ≠ k' → b.wr = true → ∀ j j' d d', mp.lookup k = some (j, d) → mp.lookup k' = some (j', d') → j ≠ j') :
    CallOK P G f args Mf (useR mp nk r0) := by
  intro ρ w vs hargs hM hnew hinj hglob hO
  unfold useB at hB
  simp only [Bool.and_eq_true] at hB
  obtain ⟨⟨⟨⟨⟨⟨⟨c1, c2⟩, c3⟩, c4⟩, c5⟩, c6⟩, c7⟩, c8⟩ := hB
  have hkill : ∀ k ∈ r0.kill, k ∈ r0.wks := fun k hk => by simpa using List.all_eq_true.1 c4 k hk
  have hmpk : ∀ k k' d, mp.lookup k = some (k', d) → ∃ b, mget M0 k = some b := fun k k' d e => by
    have := List.all_eq_true.1 c5 _ (lookup_mem' e)
    exact Option.isSome_iff_exists.1 this
  have hnn : ∀ k ∈ r0.nks, mget M0 k = none := fun k hk => by
    have := List.all_eq_true.1 c6 k hk
    simpa using this
  -- the callee's map
  have hw : ∀ k ∈ r0.wks, ∃ k', mp.lookup k = some (k', 0) ∧ trK (useKey mp nk r0.nks) k = k' ∧ emptyV M0 k = false ∧ k ∉ r0.nks := fun k hk => by
    have := List.all_eq_true.1 c3 k hk
    simp only [Bool.and_eq_true] at this
    obtain ⟨⟨a1, a2⟩, a3⟩ := this
    obtain ⟨k', e1, e2⟩ := mp_zero (mp := fun k => mp.lookup k) a3
    have hn : k ∉ r0.nks := by simpa using a2
    refine ⟨k', e1, ?_, by simpa using a1, hn⟩
    have : useKey mp nk r0.nks k = some (k', 0) := by
      unfold useKey
      rw [List.idxOf?_eq_none_iff.2 hn]; exact e1
    simp [trK, this]
  have memU : ∀ k b, mget Mf k = some b → (k, b) ∈ Mf := fun k b e => lookup_mem' e
  have hgetM0 : ∀ k b, (k, b) ∈ M0 → mget M0 k = some b := fun k b hm => noDup_mget c8 hm
  have hcall := h (rhoC (fun k => mp.lookup k) M0 ρ) w vs ⟨hfit.get.1.trans hargs.1, fun i x v h1 h2 => ?_⟩ (fun k b hk => ?_) (fun k hk => ?_) (fun k k' b b' l l' hk hk' hne hwr hl hl' hc hc' => ?_) (fun g k hg => ?_) (fun k b hk => ?_)
  · refine hcall.mono ?_
    rintro e w' ⟨v, ρc', rfl, hs⟩
    -- what lies where behind the call
    have hpos : ∀ i, i < r0.nks.length → nk + i ∈ (useR mp nk r0).nks := fun i hi => List.mem_map.2 ⟨i, List.mem_range.2 hi, rfl⟩
    let ρ' : Rho := fun k => if k ∈ (useR mp nk r0).nks then (r0.nks[k - nk]?).bind ρc' else ρ k
    have hnew' : ∀ i k0, r0.nks[i]? = some k0 → ρ' (nk + i) = ρc' k0 := fun i k0 e => by
      show (if _ then _ else _) = _
      rw [if_pos (hpos i (List.getElem?_eq_some_iff.1 e).1), Nat.add_sub_cancel_left, e]; rfl
    have hold : ∀ k l, ρ k = some l → ρ' k = some l := fun k l e => by
      show (if _ then _ else _) = _
      split
      · rename_i hn; rw [hnew k hn] at e; cases e
      · exact e
    have along : ∀ k k' d lc, useKey mp nk r0.nks k = some (k', d) → ρc' k = some lc → ∃ l, ρ' k' = some l ∧ lc.b = l.b ∧ lc.d = l.d + d ∧ (emptyV M0 k = false → lc.c = l.c) := fun k k' d lc hu hlc => by
      unfold useKey at hu
      split at hu
      · rename_i i hi
        cases hu
        exact ⟨lc, by rw [hnew' i k (idx_get hi)]; exact hlc, rfl, rfl, fun _ => rfl⟩
      · rename_i hi
        have hn := idx_none hi
        rw [hs.same k hn] at hlc
        obtain ⟨l, g1, g2, g3, g4, _⟩ := rhoC_some (mp := fun k => mp.lookup k) hu hlc
        exact ⟨l, hold _ _ g1, g2, g3, g4⟩
    refine ⟨v, ρ', rfl, ⟨hold, fun k hk => if_neg hk, hs.val.tr along 4 c1, fun k b hkb => ?_, ?_, fun k hk l hl hc => ?_, fun k hk k' hk' hne l l' hl hl' hc hc' => ?_⟩⟩
    · obtain ⟨⟨k0, b0⟩, hm0, e⟩ := List.mem_map.1 hkb
      cases e
      have hc2 := List.all_eq_true.1 c2 _ hm0
      simp only [Bool.and_eq_true, Bool.or_eq_true] at hc2
      have hr := hs.upd k0 b0 hm0
      -- the place of this block
      have place : ∀ lc, ρc' k0 = some lc → ∃ l, ρ' (trK (useKey mp nk r0.nks) k0) = some l ∧ lc = l := fun lc hlc => by
        by_cases hn : k0 ∈ r0.nks
        · cases hi : r0.nks.idxOf? k0 with
          | none => exact absurd hn (idx_none hi)
          | some i =>
            have hu : useKey mp nk r0.nks k0 = some (nk + i, 0) := by simp [useKey, hi]
            refine ⟨lc, ?_, rfl⟩
            simp only [trK, hu]
            rw [hnew' i k0 (idx_get hi)]; exact hlc
        · have hwk : k0 ∈ r0.wks := by
            rcases hc2.2 with h | h
            · exact absurd (by simpa using h) hn
            · simpa using h
          obtain ⟨k', e1, e2, e3, e4⟩ := hw k0 hwk
          rw [hs.same k0 hn] at hlc
          obtain ⟨l, g1, g2, g3, g4, _⟩ := rhoC_some (mp := fun k => mp.lookup k) e1 hlc
          refine ⟨l, by rw [e2]; exact hold _ _ g1, ?_⟩
          cases lc; cases l
          simp only at g2 g3 g4
          simp [g2, g3, g4 e3]
      cases b0 with
      | own cs =>
        obtain ⟨lc, q1, q2⟩ := hr
        obtain ⟨l, p1, rfl⟩ := place lc q1
        exact ⟨lc, p1, q2⟩
      | view cs =>
        obtain ⟨lc, q1, q2⟩ := hr
        obtain ⟨l, p1, rfl⟩ := place lc q1
        exact ⟨lc, p1, q2⟩
      | row cs =>
        obtain ⟨lc, q1, q2⟩ := hr
        obtain ⟨l, p1, rfl⟩ := place lc q1
        exact ⟨lc, p1, q2⟩
      | rowX s cs =>
        obtain ⟨lc, q1, q2⟩ := hr
        obtain ⟨l, p1, rfl⟩ := place lc q1
        exact ⟨lc, p1, q2⟩
      | old cs =>
        obtain ⟨lc, q1, q2⟩ := hr
        obtain ⟨l, p1, rfl⟩ := place lc q1
        exact ⟨lc, p1, q2⟩
      | rows ls =>
        obtain ⟨lc, q1, q2⟩ := hr
        obtain ⟨l, p1, rfl⟩ := place lc q1
        exact ⟨lc, p1, q2⟩
      | mix cs =>
        obtain ⟨lc, us, q1, q2, q3, q4, q5⟩ := hr
        obtain ⟨l, p1, rfl⟩ := place lc q1
        refine ⟨lc, us, p1, q2, q3, q4, by simpa using q5.1, fun i x u g1 g2 => ?_⟩
        rw [List.getElem?_map] at g1
        cases hi : cs[i]? with
        | none => rw [hi] at g1; cases g1
        | some y =>
          rw [hi] at g1
          cases g1
          exact (q5.2 i y u hi g2).tr along 3 (List.all_eq_true.1 hc2.1 y (List.mem_of_getElem? hi))
      | mixv cs =>
        obtain ⟨lc, us, q1, q2, q3, q4, q5⟩ := hr
        obtain ⟨l, p1, rfl⟩ := place lc q1
        refine ⟨lc, us, p1, q2, by simpa using q3, q4, by simpa using q5.1, fun i x u g1 g2 => ?_⟩
        rw [List.getElem?_map] at g1
        cases hi : cs[i]? with
        | none => rw [hi] at g1; cases g1
        | some y =>
          rw [hi] at g1
          cases g1
          exact (q5.2 i y u hi g2).tr along 3 (List.all_eq_true.1 hc2.1 y (List.mem_of_getElem? hi))
      | rowA s cs =>
        obtain ⟨lc, us, q1, q2, q5, q3⟩ := hr
        obtain ⟨l, p1, rfl⟩ := place lc q1
        refine ⟨lc, us, p1, q2, ⟨by simpa using q5.1, fun i x u g1 g2 => ?_⟩, q3⟩
        rw [List.getElem?_map] at g1
        cases hi : cs[i]? with
        | none => rw [hi] at g1; cases g1
        | some y =>
          rw [hi] at g1
          cases g1
          exact (q5.2 i y u hi g2).tr along 3 (List.all_eq_true.1 hc2.1 y (List.mem_of_getElem? hi))
    · refine ⟨hs.fr.os, hs.fr.tape, hs.fr.output, hs.fr.size, fun b hb hx => hs.fr.block b hb fun k hk lc hlc hc => ?_⟩
      obtain ⟨k', e1, e2, e3, e4⟩ := hw k hk
      obtain ⟨l, g1, g2, g3, g4, _⟩ := rhoC_some (mp := fun k => mp.lookup k) e1 hlc
      rw [g2]
      exact hx k' (List.mem_map.2 ⟨k, hk, e2⟩) l g1 (by rw [← g4 e3]; exact hc)
    · obtain ⟨i, hi, rfl⟩ := List.mem_map.1 hk
      have hi := List.mem_range.1 hi
      rw [hnew' i r0.nks[i] (by simp [hi])] at hl
      obtain ⟨g1, g2⟩ := hs.new r0.nks[i] (List.getElem_mem _) l hl hc
      refine ⟨g1, ?_⟩
      rcases g2 with g2 | ⟨k', hk', l', hl', hc', hb'⟩
      · exact .inl g2
      · obtain ⟨k2, e1, e2, e3, e4⟩ := hw k' (hkill k' hk')
        obtain ⟨l2, g1, g2, g3, g4, _⟩ := rhoC_some (mp := fun k => mp.lookup k) e1 hl'
        exact .inr ⟨k2, List.mem_map.2 ⟨k', hk', e2⟩, l2, g1, by rw [← g4 e3]; exact hc', by rw [← g2]; exact hb'⟩
    · obtain ⟨i, hi, rfl⟩ := List.mem_map.1 hk
      obtain ⟨i', hi', rfl⟩ := List.mem_map.1 hk'
      have hi := List.mem_range.1 hi
      have hi' := List.mem_range.1 hi'
      rw [hnew' i r0.nks[i] (by simp [hi])] at hl
      rw [hnew' i' r0.nks[i'] (by simp [hi'])] at hl'
      by_cases he : r0.nks[i] = r0.nks[i']
      · exact absurd (congrArg (nk + ·) (noDup_get (i := i) (j := i') (x := r0.nks[i]) c7 (by simp [hi]) (by rw [he]; simp [hi']))) hne
      · exact hs.dist _ (List.getElem_mem _) _ (List.getElem_mem _) he l l' hl hl' hc hc'
  · have hx : i < args.length := by rw [hargs.1]; exact (List.getElem?_eq_some_iff.1 h2).1
    exact fit_rel hmpk (hfit.get.2 i x args[i] h1 (by simp [hx])) (hargs.2 i args[i] v (by simp [hx]) h2)
  · have hb' := hgetM0 k b hk
    rcases hcov.get hk with ⟨k', d, b1, e1, e2, e3⟩ | ⟨e1, rfl⟩ | ⟨k', d, b1, cs0, rfl, e1, e2, hne, csm, e3, e4⟩
    · have hB1 := hM k' b1 (memU k' b1 e2)
      obtain ⟨l, hl⟩ := hB1.loc
      have hmk := rhoC_mk (mp := fun k => mp.lookup k) (M0 := M0) (ρ := ρ) e1 hb' hl
      cases b with
      | view cs0 =>
        obtain ⟨cs, q1, q2⟩ := e3
        have hev : emptyV M0 k = cs0.isEmpty := by simp [emptyV, hb']
        rw [hev] at hmk
        refine ⟨_, hmk, ?_⟩
        cases hcs0 : cs0 with
        | nil => exact .inl ⟨by simp, rfl⟩
        | cons u us =>
          have hne : cs ≠ [] := fun e => by rw [e, hcs0] at q2; simp at q2
          have hlc : l.c ≠ 0 := by
            cases b1 with
            | own cs' => obtain ⟨l', p1, p2, p3, _⟩ := hB1; rw [hl] at p1; cases p1; exact p3
            | mix cs' => cases q1
            | mixv cs' => cases q1
            | rowA _ _ => cases q1
            | old _ => cases q1
            | rows _ => cases q1
            | view cs' =>
              cases q1
              obtain ⟨l', p1, p2⟩ := hB1; rw [hl] at p1; cases p1
              rcases p2 with ⟨_, p2⟩ | ⟨p2, _⟩
              · exact absurd p2 hne
              · exact p2
            | rowX _ cs' =>
              cases q1
              obtain ⟨l', p1, _, p2⟩ := hB1; rw [hl] at p1; cases p1
              rcases p2 with ⟨_, p2⟩ | ⟨p2, _⟩
              · exact absurd p2 hne
              · exact p2
            | row cs' =>
              cases q1
              obtain ⟨l', p1, _, p2⟩ := hB1; rw [hl] at p1; cases p1
              rcases p2 with ⟨_, p2⟩ | ⟨p2, _⟩
              · exact absurd p2 hne
              · exact p2
          refine .inr ⟨by simpa using hlc, by simp, fun i v hv => ?_⟩
          rw [← hcs0, ← q2] at hv
          have := hB1.cell q1 hl (cut_get hv)
          simp only [Nat.add_assoc]
          exact this
      | mix cs0 =>
        obtain ⟨cs, rfl, rfl, q2⟩ := e3
        have hev : emptyV M0 k = false := by simp [emptyV, hb']
        rw [hev] at hmk
        have hfg := q2.get
        obtain ⟨l', vs, p1, p2, p3, p4, p5⟩ := hB1
        rw [hl] at p1; cases p1
        refine ⟨_, vs, hmk, by simpa using p2, by simpa using p3, p4, hfg.1.trans p5.1, fun i x v h1 h2 => ?_⟩
        have hx : i < cs.length := by rw [p5.1]; exact (List.getElem?_eq_some_iff.1 h2).1
        exact fit_rel hmpk (hfg.2 i x cs[i] h1 (by simp [hx])) (p5.2 i cs[i] v (by simp [hx]) h2)
      | mixv cs0 =>
        obtain ⟨cs, q1, rfl, q2, qne⟩ := e3
        have hev : emptyV M0 k = false := by simp [emptyV, hb']
        rw [hev] at hmk
        have hfg := q2.get
        have fin : ∀ vs : List Value, RelL ρ cs vs → l.c ≠ 0 → cs ≠ [] → (∀ (i : Nat) (v : Value), vs[i]? = some v → w.cell? ⟨l.b, l.d + i, none⟩ = some v) → BRel (rhoC (fun k => mp.lookup k) M0 ρ) w k (.mixv cs0) := fun vs hr hc hne hcell => by
          refine ⟨_, vs, hmk, by simpa using hc, fun e => hne (List.length_eq_zero_iff.1 (by rw [← hfg.1, e]; rfl)), fun i v hv => by simpa using hcell i v hv, hfg.1.trans hr.1, fun i x v h1 h2 => ?_⟩
          have hx : i < cs.length := by rw [hr.1]; exact (List.getElem?_eq_some_iff.1 h2).1
          exact fit_rel hmpk (hfg.2 i x cs[i] h1 (by simp [hx])) (hr.2 i cs[i] v (by simp [hx]) h2)
        rcases q1 with rfl | rfl
        · obtain ⟨l', vs, p1, p2, p3, p4, p5⟩ := hB1
          rw [hl] at p1; cases p1
          exact fin vs p5 p3 qne fun i v hv => by rw [p2, Nat.zero_add, p4.cell]; exact hv
        · obtain ⟨l', vs, p1, p2, p3, p4, p5⟩ := hB1
          rw [hl] at p1; cases p1
          exact fin vs p5 p2 p3 p4
      | own cs =>
        obtain ⟨rfl, rfl⟩ := e3
        have hev : emptyV M0 k = false := by simp [emptyV, hb']
        rw [hev] at hmk
        obtain ⟨l', p1, p2, p3, p4⟩ := hB1
        rw [hl] at p1; cases p1
        exact ⟨_, hmk, by simpa using p2, by simpa using p3, p4⟩
      | rowX s cs =>
        obtain ⟨rfl, rfl⟩ := e3
        have hev : emptyV M0 k = false := by simp [emptyV, hb']
        rw [hev] at hmk
        obtain ⟨l', p1, p2, p3⟩ := hB1
        rw [hl] at p1; cases p1
        exact ⟨_, hmk, by simpa using p2, by simpa using p3⟩
      | old cs =>
        obtain ⟨rfl, rfl⟩ := e3
        have hev : emptyV M0 k = false := by simp [emptyV, hb']
        rw [hev] at hmk
        obtain ⟨l', p1, p2⟩ := hB1
        rw [hl] at p1; cases p1
        exact ⟨_, hmk, by simpa using p2⟩
      | rows ls =>
        obtain ⟨rfl, rfl⟩ := e3
        have hev : emptyV M0 k = false := by simp [emptyV, hb']
        rw [hev] at hmk
        obtain ⟨l', p1, p2⟩ := hB1
        rw [hl] at p1; cases p1
        exact ⟨_, hmk, by simpa using p2⟩
      | row cs =>
        obtain ⟨rfl, rfl⟩ := e3
        have hev : emptyV M0 k = false := by simp [emptyV, hb']
        rw [hev] at hmk
        obtain ⟨l', p1, p2, p3⟩ := hB1
        rw [hl] at p1; cases p1
        exact ⟨_, hmk, by simpa using p2, by simpa using p3⟩
      | rowA s cs0 =>
        obtain ⟨cs, rfl, rfl, q2⟩ := e3
        have hev : emptyV M0 k = false := by simp [emptyV, hb']
        rw [hev] at hmk
        have hfg := q2.get
        obtain ⟨l', vs, p1, p2, p5, p3⟩ := hB1
        rw [hl] at p1; cases p1
        refine ⟨_, vs, hmk, by simpa using p2, ⟨hfg.1.trans p5.1, fun i x v h1 h2 => ?_⟩, by simpa using p3⟩
        have hx : i < cs.length := by rw [p5.1]; exact (List.getElem?_eq_some_iff.1 h2).1
        exact fit_rel hmpk (hfg.2 i x cs[i] h1 (by simp [hx])) (p5.2 i cs[i] v (by simp [hx]) h2)
    · refine ⟨⟨0, 0, 0⟩, ?_, .inl ⟨rfl, rfl⟩⟩
      have e1 : mp.lookup k = none := e1
      simp only [rhoC, hb', e1]
    · have hne : cs0 ≠ [] := fun e => by rw [e] at hne; cases hne
      have hB1 := hM k' b1 (memU k' b1 e2)
      obtain ⟨l, hl⟩ := hB1.loc
      have hmk := rhoC_mk (mp := fun k => mp.lookup k) (M0 := M0) (ρ := ρ) e1 hb' hl
      have hev : emptyV M0 k = false := by
        cases cs0 with
        | nil => exact absurd rfl hne
        | cons u us => simp [emptyV, hb']
      rw [hev] at hmk
      have fin : ∀ us : List Value, RelL ρ csm us → l.c ≠ 0 → (∀ (i : Nat) (v : Value), us[i]? = some v → w.cell? ⟨l.b, l.d + i, none⟩ = some v) → BRel (rhoC (fun k => mp.lookup k) M0 ρ) w k (.view cs0) := fun us hr hc hcell => by
        refine ⟨_, hmk, .inr ⟨by simpa using hc, hne, fun i v hv => ?_⟩⟩
        have hcut := exAll_rel e4 (hr.cut d cs0.length)
        rw [← hcut] at hv
        have := hcell _ _ (cut_get hv)
        simp only [Nat.add_assoc]
        exact this
      obtain ⟨us, hus, hcell⟩ := hB1.mixed e3 hl
      have hune : us ≠ [] := fun e => by
        have hcut := exAll_rel e4 (hus.cut d cs0.length)
        rw [e] at hcut
        simp at hcut
        exact hne hcut
      exact fin us hus (hB1.mixed_c e3 hl hus hune) hcell
  · simp only [rhoC, hnn k hk]
  · -- writable ones lie apart
    have away : ∀ {k : Nat} {b : Blk} {l : Loc}, (k, b) ∈ M0 → rhoC (fun k => mp.lookup k) M0 ρ k = some l → l.c ≠ 0 → ∃ j d b1 lj, mp.lookup k = some (j, d) ∧ (j, b1) ∈ Mf ∧ ρ j = some lj ∧ lj.b = l.b ∧ lj.c ≠ 0 ∧ (b.wr = true → b1.wr = true) := fun {k b l} hk hl hc => by
      rcases hcov.get hk with ⟨j, d, b1, e1, e2, e3⟩ | ⟨e1, rfl⟩ | ⟨j, d, b1, cs0, rfl, e1, e2, e3⟩
      · obtain ⟨lj, g1, g2, g3, g4, g5⟩ := rhoC_some (mp := fun k => mp.lookup k) e1 hl
        refine ⟨j, d, b1, lj, e1, memU j b1 e2, g1, g2.symm, by rw [← g5 hc]; exact hc, fun hwr => ?_⟩
        cases b with
        | view _ => cases hwr
        | mixv _ => cases hwr
        | old _ => cases hwr
        | rows _ => cases hwr
        | mix _ => obtain ⟨_, e, _⟩ := e3; rw [e]; rfl
        | own cs => rw [e3.1]; rfl
        | row cs => rw [e3.1]; rfl
        | rowX s cs => rw [e3.1]; rfl
        | rowA s cs => obtain ⟨_, e, _⟩ := e3; rw [e]; rfl
      · have e1 : mp.lookup k = none := e1
        have hb' := hgetM0 _ _ hk
        simp only [rhoC, hb', e1] at hl
        cases hl; exact absurd rfl hc
      · obtain ⟨lj, g1, g2, g3, g4, g5⟩ := rhoC_some (mp := fun k => mp.lookup k) e1 hl
        exact ⟨j, d, b1, lj, e1, memU j b1 e2, g1, g2.symm, by rw [← g5 hc]; exact hc, fun hwr => by cases hwr⟩
    obtain ⟨j, d, b1, lj, a1, a2, a3, a4, a5, a6⟩ := away hk hl hc
    obtain ⟨j', d', b1', lj', a1', a2', a3', a4', a5', _⟩ := away hk' hl' hc'
    rw [← a4, ← a4']
    exact hinj j j' b1 b1' lj lj' a2 a2' (hnd k k' b b' hk hk' hne hwr j j' d d' a1 a1') (a6 hwr) a3 a3' a5 a5'
  · obtain ⟨k', e1, e2⟩ := hG g k hg
    obtain ⟨l, g1, g2, g3⟩ := hglob g k' e2
    obtain ⟨b, hb⟩ := hmpk k k' 0 e1
    exact ⟨_, rhoC_mk (mp := fun k => mp.lookup k) e1 hb g1, g2, by simpa using g3⟩
  · -- what lay there lies there still
    have far : ∀ bl, ¬ wrote ρ (useR mp nk r0).wks bl → ¬ wrote (rhoC (fun k => mp.lookup k) M0 ρ) r0.wks bl := fun bl hn ⟨k2, g1, lc, g2, g3, g4⟩ => hn (by
      obtain ⟨k', e1, e2, e3, _⟩ := hw k2 g1
      obtain ⟨l, q1, q2, q3, q4, _⟩ := rhoC_some (mp := fun k => mp.lookup k) e1 g2
      exact ⟨k', List.mem_map.2 ⟨k2, g1, e2⟩, l, q1, by rw [← q4 e3]; exact g3, by rw [← q2]; exact g4⟩)
    have step : ∀ k' b1, (k', b1) ∈ Mf → mp.lookup k = some (k', 0) → b = b1 → emptyV M0 k = false → OldB w (wrote (rhoC (fun k => mp.lookup k) M0 ρ) r0.wks) (rhoC (fun k => mp.lookup k) M0 ρ) k b := fun k' b1 h1 e1 e2 hev => by
      subst e2
      have h2 := (hO k' b h1).now (X := wrote ρ (useR mp nk r0).wks) (Y := wrote (rhoC (fun k => mp.lookup k) M0 ρ) r0.wks) ⟨rfl, rfl, rfl, Nat.le_refl _, fun _ _ _ => rfl⟩ (fun bl _ hn => far bl hn)
      have hb' := hgetM0 k b hk
      have same : ∀ l, ρ k' = some l → rhoC (fun k => mp.lookup k) M0 ρ k = some l := fun l hl => by
        rw [rhoC_mk (mp := fun k => mp.lookup k) e1 hb' hl, hev]; simp
      cases b with
      | old cs => obtain ⟨l, q1, q2⟩ := h2; exact ⟨l, same l q1, q2⟩
      | rows ls => obtain ⟨l, q1, q2⟩ := h2; exact ⟨l, same l q1, q2⟩
      | _ => trivial
    rcases hcov.get hk with ⟨k', d, b1, e1, e2, e3⟩ | ⟨e1, rfl⟩ | ⟨k', d, b1, cs0, rfl, e1, e2, e3⟩
    · have hb' := hgetM0 k b hk
      cases b with
      | old cs => obtain ⟨rfl, rfl⟩ := e3; exact step k' _ (memU k' _ e2) e1 rfl (by simp [emptyV, hb'])
      | rows ls => obtain ⟨rfl, rfl⟩ := e3; exact step k' _ (memU k' _ e2) e1 rfl (by simp [emptyV, hb'])
      | _ => trivial
    · trivial
    · trivial
end

section
variable {P : Program}
/-- A piece of code, by its place. -/
def sub : Code → List Nat → Code
  | c, [] => c
  | .seq a _, 0 :: l => sub a l
  | .seq _ b, _ :: l => sub b l
  | .cond _ a _, 0 :: l => sub a l
  | .cond _ _ b, _ :: l => sub b l
  | .block _ a, _ :: l => sub a l
  | .loop a, _ :: l => sub a l
  | .scope a, _ :: l => sub a l
  | c, _ => c
def codeOf (f : Func) : Code := match f.body with
  | some c => c
  | none => .skip
def labelIn (c : Code) (l : Nat) : Code := (findLabel c l).getD .skip
/-- A contract without memory serves anywhere. -/
theorem CallOK.gl {G : Nat → Option Nat} {f : FuncId} {args : List AV} {r : Res} (h : CallOK P (fun _ => none) f args [] r) : CallOK P G f args [] r :=
  fun ρ w vs h1 h2 h3 h4 _ h6 => h ρ w vs h1 h2 h3 h4 (fun _ _ e => nomatch e) h6
def AllUpd (M : List (Nat × Blk)) : List (Nat × Blk) → Prop
  | [] => True
  | (k, b) :: l => mget M k = some b ∧ AllUpd M l
theorem AllUpd.get {M : List (Nat × Blk)} : ∀ {l : List (Nat × Blk)}, AllUpd M l → ∀ k b, (k, b) ∈ l → mget M k = some b
  | (_, _) :: _, h, k, b, hm => by
    rcases List.mem_cons.1 hm with e | hm
    · cases e; exact h.1
    · exact AllUpd.get h.2 k b hm
theorem AG.fin {hm : P.follows .mixedOrders = true} {G : List (Nat × Nat)} {f : FuncId} {r : Res} {B : Base} {todo : List Item} {st : St} {obs : List Ob} (l : List AV) (fn : Func) (hf : P.funcs[f]? = some fn) (ht : todo = [] ∨ ∃ k, todo = .code .ret :: k)
    (hres : resA P (evC (cxOf hm G f r B) st) (mget st.M) fn.results.toList = some (l, obs)) (hob : AllOb P obs) (hv : tupA l = r.val) (hu : AllUpd st.M r.upd) (hB : endB B.nb r st.M = true) :
    AG (cxOf hm G f r B) todo st := AG.ret fn hf ht hres hob hv hu.get hB
theorem CallOK.from {G : List (Nat × Nat)} {f : FuncId} {args : List AV} {M : List (Nat × Blk)} {r : Res} (hm : P.follows .mixedOrders = true) (fn : Func) (nb : Nat) (hf : P.funcs[f]? = some fn) (hb : fn.body = some (codeOf fn)) (hB : entB nb G args M r = true)
    (h : ∀ (w : World) (ρ : Rho) (h1 : ∀ k, nb ≤ k → ρ k = none) (h2 : ∀ k, k < nb → ∃ l, ρ k = some l), AG (cxOf hm G f r ⟨w, ρ, nb, h1, h2⟩) [.code (codeOf fn)] ⟨args ++ List.replicate (fn.ntmps - args.length) .j, M, nb⟩) : CallOK P (fun g => G.lookup g) f args M r :=
  CallOK.of_AG hm nb hf hb hB h
/-- ... of a function that meets no package-level variable. -/
theorem CallOK.from0 {f : FuncId} {args : List AV} {M : List (Nat × Blk)} {r : Res} (hm : P.follows .mixedOrders = true) (fn : Func) (nb : Nat) (hf : P.funcs[f]? = some fn) (hb : fn.body = some (codeOf fn)) (hB : entB nb [] args M r = true)
    (h : ∀ (w : World) (ρ : Rho) (h1 : ∀ k, nb ≤ k → ρ k = none) (h2 : ∀ k, k < nb → ∃ l, ρ k = some l), AG (cxOf hm [] f r ⟨w, ρ, nb, h1, h2⟩) [.code (codeOf fn)] ⟨args ++ List.replicate (fn.ntmps - args.length) .j, M, nb⟩) : CallOK P (fun _ => none) f args M r :=
  CallOK.of_AG (G := []) hm nb hf hb hB h
/-- Temporaries, of which these are known. -/
def mkT (n : Nat) (l : List (Nat × AV)) : List AV := (List.range n).map fun i => match l.lookup i with
  | some x => x
  | none => .j
def runK (c : Cx P) (n : Nat) (ts ks : List Nat) (n' : Nat) (todo : List Item) (st : St) : Option (List Item × St) := match runs c n todo st with
  | some (t, s) => some (t, keepS ts ks n' s)
  | none => none
theorem AG.rk {c : Cx P} {todo todo' : List Item} {st st' : St} (n : Nat) (ts ks : List Nat) (n' : Nat) (h : runK c n ts ks n' todo st = some (todo', st')) (hok : keepOk c ks n' st' = true) (hk : AG c todo' st') : AG c todo st := by
  unfold runK at h
  split at h
  · rename_i t s hr
    cases h
    exact AG.run n hr (AG.keep ts ks n' rfl hok hk)
  · cases h
def regK (c : Cx P) (sym : List Nat) (orc : List (Nat × Res)) (ts ks : List Nat) (n' : Nat) (ops : Array Oper) (d : Bool) (st : St) : Option (St × List Ob) := match evalRegion c sym orc ops d st with
  | some (s, obs) => some (keepS ts ks n' s, obs)
  | none => none
theorem AG.gk {c : Cx P} {id : Nat} {ops : Array Oper} {d : Bool} {k : List Item} {st st' : St} {obs : List Ob} (sym : List Nat) (orc : List (Nat × Res)) (ts ks : List Nat) (n' : Nat) (h : regK c sym orc ts ks n' ops d st = some (st', obs)) (hok : keepOk c ks n' st' = true) (hb : AllOb P obs)
    (hk : AG c k st') : AG c (.code (.region id ops d) :: k) st := by
  unfold regK at h
  split at h
  · rename_i s obs' hr
    cases h
    exact AG.region sym orc hr hb (AG.keep ts ks n' rfl hok hk)
  · cases h
/-- One block, said otherwise. -/
def reB (k : Nat) (b : Blk) (st : St) : St := ⟨st.T, st.M.map fun x => if Nat.beq x.1 k then (k, b) else x, st.n⟩
theorem AG.re {c : Cx P} {todo : List Item} {st : St} (k : Nat) (b : Blk) (h : st = reB k b st) (hk : AG c todo (reB k b st)) : AG c todo st := h ▸ hk
theorem cov_all {α : Type} (l : List α) : (l.drop 0).take l.length = l := by simp
/-- From a contract to a call: what it was handed lies as told. -/
theorem CallOK.plainlyO {G : Nat → Option Nat} {f : FuncId} {args : List AV} {M : List (Nat × Blk)} {v : Value} (h : CallOK P G f args M { val := .ex v }) (ρ : Rho) (w : World) (vs : List Value) (h1 : RelL ρ args vs) (h2 : ∀ k b, (k, b) ∈ M → BRel ρ w k b) (h3 : ∀ k b, (k, b) ∈ M → b.wr = false) (h4 : ∀ g k, G g = some k → ∃ l, ρ k = some l ∧ l.b = g ∧ l.d = 0) (h5 : ∀ k b, (k, b) ∈ M → OldB w (fun _ => False) ρ k b) :
    Calls P f vs.toArray w fun e w' => e = .returned v ∧ Below w.heap.size w w' := by
  refine (h ρ w vs h1 h2 (fun _ hm => nomatch hm) (fun k k' b b' l l' hk _ _ hw => by rw [h3 k b hk] at hw; cases hw) h4 (fun k b hk => (h5 k b hk).now ⟨rfl, rfl, rfl, Nat.le_refl _, fun _ _ _ => rfl⟩ fun bl _ _ ⟨_, hm, _⟩ => nomatch hm)).mono ?_
  rintro e w' ⟨u, ρ', rfl, hs⟩
  have hv : u = v := by have := hs.val; cases this; rfl
  exact ⟨by rw [hv], ⟨hs.fr.os, hs.fr.tape, hs.fr.output, hs.fr.size, fun k hk => hs.fr.block k hk (fun _ hm => nomatch hm)⟩⟩
theorem CallOK.plainly {G : Nat → Option Nat} {f : FuncId} {args : List AV} {M : List (Nat × Blk)} {v : Value} (h : CallOK P G f args M { val := .ex v }) (ρ : Rho) (w : World) (vs : List Value) (h1 : RelL ρ args vs) (h2 : ∀ k b, (k, b) ∈ M → BRel ρ w k b) (h3 : ∀ k b, (k, b) ∈ M → b.wr = false) (h4 : ∀ g k, G g = some k → ∃ l, ρ k = some l ∧ l.b = g ∧ l.d = 0) (h5 : M.all (fun x => !x.2.isOld) = true := by kernel_rfl) :
    Calls P f vs.toArray w fun e w' => e = .returned v ∧ Below w.heap.size w w' :=
  h.plainlyO ρ w vs h1 h2 h3 h4 fun k b hk => .not (by simpa using List.all_eq_true.1 h5 (k, b) hk)
theorem relL_ex (ρ : Rho) (vs : List Value) : RelL ρ (vs.map .ex) vs := ⟨by simp, fun i x v h1 h2 => by
  rw [List.getElem?_map, h2] at h1; cases h1; exact .ex _⟩
/-- Numbers in a row, by their places. -/
def arf (l : List Int) (i : Nat) : Int := l.getD i 0
def glB (G0 G : List (Nat × Nat)) (mp : KMap) : Bool := G0.all fun x => match mp.lookup x.2 with
  | some (k, d) => Nat.beq d 0 && (match G.lookup x.1 with | some k' => Nat.beq k k' | none => false)
  | none => false
def ndB (M0 : List (Nat × Blk)) (mp : KMap) : Bool := M0.all fun x => !x.2.wr || M0.all fun y => Nat.beq x.1 y.1 || (match mp.lookup x.1, mp.lookup y.1 with | some (j, _), some (j', _) => !Nat.beq j j' | _, _ => true)
theorem CallOK.at {G0 G : List (Nat × Nat)} {f : FuncId} {args0 args : List AV} {M0 : List (Nat × Blk)} {r0 : Res} {Mf : List (Nat × Blk)} (mp : KMap) (nk : Nat) (h : CallOK P (fun g => G0.lookup g) f args0 M0 r0)
    (hfit : FitL (emptyV M0) (fun k => mp.lookup k) args0 args) (hcov : CovL (emptyV M0) (fun k => mp.lookup k) Mf M0) (hB : (useB mp nk M0 r0 && glB G0 G mp && ndB M0 mp) = true) :
    CallOK P (fun g => G.lookup g) f args Mf (useR mp nk r0) := by
  rw [Bool.and_eq_true, Bool.and_eq_true] at hB
  refine h.use mp nk hfit hcov hB.1.1 (fun g k0 hg => ?_) (fun k k' b b' hk hk' hne hw j j' d d' e e' => ?_)
  · have := List.all_eq_true.1 hB.1.2 (g, k0) (lookup_mem' hg)
    simp only at this
    split at this
    · rename_i k d hm
      rw [Bool.and_eq_true] at this
      have hd : d = 0 := by simpa using this.1
      subst hd
      have h2 := this.2
      split at h2
      · rename_i k' hg'
        have : k = k' := by simpa using h2
        subst this
        exact ⟨k, hm, hg'⟩
      · cases h2
    · cases this
  · have := List.all_eq_true.1 hB.2 (k, b) hk
    simp only [hw, Bool.not_true, Bool.false_or] at this
    have := List.all_eq_true.1 this (k', b') hk'
    have hb : Nat.beq k k' = false := by
      cases hbb : Nat.beq k k' with
      | false => rfl
      | true => exact absurd (Nat.eq_of_beq_eq_true hbb) hne
    simp only [hb, Bool.false_or, e, e'] at this
    intro hjj
    subst hjj
    simp at this
theorem CallOK.at0 {G : List (Nat × Nat)} {f : FuncId} {args0 args : List AV} {M0 : List (Nat × Blk)} {r0 : Res} {Mf : List (Nat × Blk)} (mp : KMap) (nk : Nat) (h : CallOK P (fun _ => none) f args0 M0 r0)
    (hfit : FitL (emptyV M0) (fun k => mp.lookup k) args0 args) (hcov : CovL (emptyV M0) (fun k => mp.lookup k) Mf M0) (hB : (useB mp nk M0 r0 && glB [] G mp && ndB M0 mp) = true) :
    CallOK P (fun g => G.lookup g) f args Mf (useR mp nk r0) := CallOK.at (G0 := []) mp nk h hfit hcov hB
end
end Go.Proofs.YtdfbcdgneboilaaDoor.Ab
