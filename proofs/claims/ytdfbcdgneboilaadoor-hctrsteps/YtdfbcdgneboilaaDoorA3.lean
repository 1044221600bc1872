/- Own: append, strings, calls; the evaluator of a region (no statement is proved here). -/
import Derived.Test.YtdfbcdgneboilaaDoorA2
import Derived.ChangeKeysEq
import Derived.Laws.StructEq
import Derived.Laws.Tables
import Derived.Laws.ComplexArith
namespace Go.Proofs.YtdfbcdgneboilaaDoor.Ab
open Go.RowKit

section
variable {P : Program} {G : Nat → Option Nat}
theorem baseA_rel {ρ : Rho} {w : World} {m : Nat → Option Blk} {x : AV} {v : Value} {ks : List Nat} {cs : List Value} {obs : List Ob} (h : baseA m x = some (ks, cs, obs)) (hr : Rel ρ x v) (hm : ∀ k ∈ ks, ∀ b, m k = some b → BRel ρ w k b) (hb : AllOb P obs) :
    ∃ ad cap, v = .slice ad cs.length cap ∧ ((cap = 0 ∧ cs = []) ∨ ∃ k l rest, ks = [k] ∧ ρ k = some l ∧ l.c ≠ 0 ∧ ad = some ⟨l.b, 0, none⟩ ∧ Has w l.b (cs ++ rest) ∧ (cs ++ rest).length = cap) := by
  unfold baseA at h
  split at h
  · cases h; cases hr; exact ⟨_, _, rfl, .inl ⟨rfl, rfl⟩⟩
  · rename_i k off n c
    split at h
    · rename_i h0
      cases h
      have : n = 0 ∧ c = 0 := by simpa using h0
      obtain ⟨rfl, rfl⟩ := this
      cases hr with
      | s _ => exact ⟨_, _, rfl, .inl ⟨rfl, rfl⟩⟩
      | sn => exact ⟨_, _, rfl, .inl ⟨rfl, rfl⟩⟩
    · split at h
      · rename_i cs' hk
        split at h
        · rename_i h0
          cases h
          subst h0
          obtain ⟨b1, b2, b3, b4, _⟩ := hb
          have e1 : n = cs.length := Nat.le_antisymm b1 b2
          have e2 : c = cs.length := Nat.le_antisymm b3 b4
          obtain ⟨l, f1, f2, f3, f4⟩ := hm k (by simp) _ hk
          cases hr with
          | s el =>
            rw [f1] at el; cases el
            exact ⟨_, _, by rw [e1], .inr ⟨k, l, [], rfl, f1, f3, by rw [f2], by simpa using f4, by simpa using e2.symm⟩⟩
          | sn => exact ⟨_, _, by rw [← e1], .inl ⟨rfl, List.length_eq_zero_iff.1 e1.symm⟩⟩
        · cases h
      · cases h
  · rename_i k off n
    split at h
    · rename_i cs' hk
      split at h
      · rename_i h0
        cases h
        subst h0
        obtain ⟨b1, b2, _⟩ := hb
        have e1 : n = cs.length := Nat.le_antisymm b1 b2
        obtain ⟨l, f1, f2, f3⟩ := hm k (by simp) _ hk
        rcases f3 with ⟨f3, rfl⟩ | ⟨f3, rest, f4, f5⟩
        · simp at e1
          subst e1
          cases hr with
          | o el _ _ => rw [f1] at el; cases el; exact ⟨_, _, rfl, .inl ⟨by omega, rfl⟩⟩
          | on el hc => exact ⟨_, _, rfl, .inl ⟨rfl, rfl⟩⟩
        · cases hr with
          | o el _ _ => rw [f1] at el; cases el; exact ⟨_, _, by rw [e1], .inr ⟨k, l, rest, rfl, f1, f3, rfl, f4, by omega⟩⟩
          | on el hc => rw [f1] at el; cases el; omega
      · cases h
    · cases h
  · cases h
theorem src_of {w : World} {v : Value} {xs : List Value} {tx : TypeId} {d : TypeDesc} (hd : P.underlying tx = some d) (hk : isRowT d = true)
    (h : (∃ a n c, v = .slice a n c ∧ n = xs.length ∧ (n = 0 ∨ ∃ ad, a = some ad ∧ ∀ j u, xs[j]? = some u → w.cell? (ad.add j) = some u)) ∨ (∃ s, v = .string s ∧ xs = byteCells s)) (h1 : xs.all (·.oneCell') = true) : Src P 1 tx v xs.length xs w := by
  refine ⟨?_, fun w' => lenOf_src h w', ?_, ?_, by simp, fun u hu => List.all_eq_true.1 h1 u hu⟩
  · cases d <;> simp [isRowT] at hk
    · exact .inr hd
    · exact .inl ⟨_, hd⟩
  · have := run_firstCells (P := P) w v xs xs.length (Nat.le_refl _) h
    rwa [List.take_length] at this
  · have := run_firstCells (P := P) w.drew v xs xs.length (Nat.le_refl _) (h.imp (fun ⟨a, n, c, e, hn, h2⟩ => ⟨a, n, c, e, hn, h2.imp id fun ⟨ad, e2, h3⟩ => ⟨ad, e2, fun j u hj => by simpa using h3 j u hj⟩⟩) id)
    rwa [List.take_length] at this
theorem evAppend_ok {ev : Operand → AV} {m : Nat → Option Blk} {o : Oper} {nk : Nat} {t tx : TypeId} {x y : Operand} {r : Res} {obs : List Ob} (ho : o.op = .call { callee := .builtin .append, args := #[x, y], argTypes := #[t, tx] }) (h : evAppend P ev m nk t tx x y = some (r, obs)) (hb : AllOb P obs) : OpOK0 P G o ev m r := by
  have hx : x ∈ o.op.operands := by rw [ho]; simp [Op.operands, Call.operands]
  have hy : y ∈ o.op.operands := by rw [ho]; simp [Op.operands, Call.operands]
  have split2 : ∀ (a b : List Ob), AllOb P (a ++ b) → AllOb P a ∧ AllOb P b := fun a => by
    induction a with
    | nil => exact fun b h => ⟨trivial, h⟩
    | cons x a ih => exact fun b h => ⟨⟨h.1, (ih b h.2).1⟩, (ih b h.2).2⟩
  have exec : ∀ (a : Act) (w w' : World) (v : Value), (Builtin.append_ #[t, tx] o.type #[a.eval x, a.eval y]).run P w = .ok v w' → (execOp a.eval o).run P w = .ok (.value v) w' := fun a w w' v hv => by
    simp [execOp, ho, resolve, invoke, builtin, hv]
  unfold evAppend at h
  split at h
  · rename_i e ks cs ob1 rd xs ob2 hu hbase hsrc
    split at h
    · rename_i i d hi hd
      split at h
      · rename_i z hz
        split at h
        · rename_i hs
          obtain ⟨hs1, hs2, hs3, hs4⟩ := hs
          cases h
          obtain ⟨b1, b2, b3, b4⟩ := hb
          obtain ⟨b4, b5⟩ := split2 _ _ b4
          have b1 : (cs.length + xs.length) * i.bytes ≤ 140737488355328 := b1
          have b2 : cs.length + xs.length ≤ 140737488355328 := b2
          have b3 : xs.all (·.oneCell') = true := b3
          refine OpOK0.of_run fun ρ a w g1 g2 g3 => ?_
          have hnk : ρ nk = none := g3 nk (by simp)
          obtain ⟨ad, cap, hax, hcase⟩ := baseA_rel hbase (g1 x hx) (fun k' hk' => g2 k' (by simp [hk'])) b4
          have hsr := srcA_rel hsrc (g1 y hy) (fun k' hk' => g2 k' (by simp [hk'])) b5
          have hS := src_of (P := P) hd hs3 hsr b3
          rw [← hs1] at hS
          by_cases hroom : cs.length + xs.length ≤ cap
          · -- there is room
            have hun : ((∃ e', d = .slice e') ∨ d = .string) := by cases d <;> simp [isRowT] at hs3 ⊢
            rcases hcase with ⟨rfl, rfl⟩ | ⟨k, l, rest, rfl, f1, f3, rfl, f4, f5⟩
            · have hx0 : xs = [] := List.length_eq_zero_iff.1 (by have h0 := hroom; simp only [List.length_nil] at h0; omega)
              subst hx0
              have hc0 : (Builtin.firstCells i.size 0 (a.eval y)).run P w = .ok #[] w := hS.cells
              have hl0 : ∀ w', (Builtin.lenOf (a.eval y)).run P w' = .ok 0 w' := hS.len
              refine ⟨.slice ad 0 0, w, ρ.add nk ⟨0, 0, 0⟩, .inl (exec a w w _ ?_), Rho.le_add hnk, fun j hj => Rho.add_other _ _ _ _ (by simpa using hj), ?_, fun k' b' hm' => ?_, Fr.refl _ _ _, fun k' hk' l' hl' hc' => ?_, fun k' hk' k2 hk2 hne => ?_⟩
              · rw [hax]
                rcases hun with ⟨e', rfl⟩ | rfl <;> cases ad <;> simp [Builtin.append_, run_underlying hu, run_underlying hd, sizeOf, typeInfo, hi, hl0, hc0, storeCells]
              · exact .on (Rho.add_same _ _ _) (by simp)
              · simp at hm'; obtain ⟨rfl, rfl⟩ := hm'
                exact ⟨_, Rho.add_same _ _ _, rfl, .inl ⟨rfl, rfl⟩⟩
              · simp at hk'; subst hk'; rw [Rho.add_same] at hl'; cases hl'; exact absurd rfl hc'
              · simp at hk' hk2; exact absurd (hk'.trans hk2.symm) hne
            · have hst := run_storeCells_has (P := P) l.b (0 + cs.length) xs 0 (cs ++ rest) w f4 (by omega) hS.one
              simp only [Nat.add_zero, Nat.zero_add] at hst
              have e1 : (cs ++ rest).take cs.length = cs := by simp
              have hlen : (cs ++ rest).length = cs.length + rest.length := by simp
              have e2 : (cs ++ rest).drop (cs.length + xs.length) = rest.drop xs.length := by simp
              rw [e1, e2] at hst
              have hnew : Has (w.setRow l.b (cs ++ xs ++ rest.drop xs.length).toArray) l.b (cs ++ xs ++ rest.drop xs.length) := f4.setRow _ (by simp; omega)
              have hnl : (cs ++ xs ++ rest.drop xs.length).length = cap := by simp; omega
              refine ⟨.slice (some ⟨l.b, 0, none⟩) (cs.length + xs.length) cap, w.setRow l.b (cs ++ xs ++ rest.drop xs.length).toArray, ρ.add nk ⟨l.b, 0, cap⟩, .inl (exec a w _ _ ?_), Rho.le_add hnk, fun j hj => Rho.add_other _ _ _ _ (by simpa using hj), ?_, fun k' b' hm' => ?_, Fr.setRow (by simp) f1 f3 _, fun k' hk' l' hl' hc' => ?_, fun k' hk' k2 hk2 hne => ?_⟩
              · rw [hax]
                have hc1 := hS.cells
                rw [hs1] at hc1
                simp only [List.append_assoc] at hst
                rcases hun with ⟨e', rfl⟩ | rfl <;> simp [Builtin.append_, run_underlying hu, run_underlying hd, sizeOf, typeInfo, hi, hS.len, hc1, hroom, hs1, addr_add, hst]
              · have := Rel.o (ρ := ρ.add nk ⟨l.b, 0, cap⟩) (k := nk) (off := 0) (n := cs.length + xs.length) (Rho.add_same _ _ _) rfl (by simp; omega)
                simpa using this
              · simp at hm'; obtain ⟨rfl, rfl⟩ := hm'
                refine ⟨_, Rho.add_same _ _ _, rfl, ?_⟩
                by_cases hc0 : cap = 0
                · exact .inl ⟨hc0, List.length_eq_zero_iff.1 (by rw [List.length_append]; omega)⟩
                · exact .inr ⟨hc0, rest.drop xs.length, hnew, hnl⟩
              · simp at hk'; subst hk'; rw [Rho.add_same] at hl'; cases hl'
                exact ⟨hnew.lt, .inr ⟨k, by simp, l, f1, f3, rfl⟩⟩
              · simp at hk' hk2; exact absurd (hk'.trans hk2.symm) hne
          · -- there is none
            have hold : (Builtin.firstCells i.size cs.length (.slice ad cs.length cap)).run P w.drew = .ok cs.toArray w.drew := by
              rw [hs1]
              have := run_firstCells (P := P) w.drew (.slice ad cs.length cap) cs cs.length (Nat.le_refl _) (.inl ⟨ad, _, cap, rfl, rfl, by
                rcases hcase with ⟨_, rfl⟩ | ⟨k, l, rest, _, f1, f3, rfl, f4, f5⟩
                · exact .inl rfl
                · refine .inr ⟨_, rfl, fun j u hj => ?_⟩
                  rw [addr_add, Nat.zero_add]
                  have := f4.cell j
                  rw [List.getElem?_append_left (List.getElem?_eq_some_iff.1 hj).1, hj] at this
                  simpa using this⟩)
              rwa [List.take_length] at this
            have hg := run_append_grow_src (P := P) w t tx o.type e i z hu hi hz ad cs.length cap cs hold (a.eval y) xs.length xs hS (by omega) (by omega) (growslice_fits (by omega) b1)
            have hge := grownCap_ge w (cs.length + xs.length) cap e
            generalize grownCap w (cs.length + xs.length) cap e = nc at hg hge
            have hzc : Builtin.zeroCells z.cells (nc - (cs.length + xs.length)) = (List.replicate (nc - (cs.length + xs.length)) z).toArray := by
              rw [cells_one hs2]
              apply Array.ext'
              simp [Builtin.zeroCells]
              apply List.ext_getElem
              · simp
              · intro i h1 h2
                simp [Nat.mod_one]
            have hcells : (cs ++ xs).toArray ++ Builtin.zeroCells z.cells (nc - (cs.length + xs.length)) = (cs ++ xs ++ List.replicate (nc - (cs.length + xs.length)) z).toArray := by rw [hzc]; simp
            rw [hcells] at hg
            have hnl : (cs ++ xs ++ List.replicate (nc - (cs.length + xs.length)) z).length = nc := by simp; omega
            refine ⟨_, w.drew.alloc (.cells (cs ++ xs ++ List.replicate (nc - (cs.length + xs.length)) z).toArray e), ρ.add nk ⟨w.heap.size, 0, nc⟩, .inl (exec a w _ _ (by rw [hax]; exact hg)), Rho.le_add hnk, fun j hj => Rho.add_other _ _ _ _ (by simpa using hj), ?_, fun k' b' hm' => ?_, ⟨rfl, rfl, rfl, by simp, fun b hlt _ => Below.heap_alloc w.drew _ b hlt⟩, fun k' hk' l' hl' hc' => ?_, fun k' hk' k2 hk2 hne => ?_⟩
            · have := Rel.o (ρ := ρ.add nk ⟨w.heap.size, 0, nc⟩) (k := nk) (off := 0) (n := cs.length + xs.length) (Rho.add_same _ _ _) rfl (by simp; omega)
              simpa using this
            · simp at hm'; obtain ⟨rfl, rfl⟩ := hm'
              exact ⟨_, Rho.add_same _ _ _, rfl, .inr ⟨by show nc ≠ 0; omega, _, Has.alloc w.drew _ e, hnl⟩⟩
            · simp at hk'; subst hk'; rw [Rho.add_same] at hl'; cases hl'
              exact ⟨by simp, .inl (Nat.le_refl _)⟩
            · simp at hk' hk2; exact absurd (hk'.trans hk2.symm) hne
        · cases h
      · cases h
    · cases h
  · cases h

/-! append, to rows of elements of any size -/
/-- What is appended to, in elements of s cells. -/
def baseM (m : Nat → Option Blk) (s : Nat) : AV → Option (List Nat × List AV × Nat × List Ob)
  | .ex (.slice none 0 0) => some ([], [], 0, [])
  | .s _ _ n c => if Nat.beq n 0 && Nat.beq c 0 then some ([], [], 0, []) else none
  | .o k off n => match m k with
    | some (.rowA s' cs) => if Nat.beq off 0 && Nat.beq s' s then some ([k], cs, n, [.le (n * s) cs.length, .le cs.length (n * s)]) else none
    | _ => none
  | _ => none
/-- What is appended: so many elements of s cells. -/
def srcM (m : Nat → Option Blk) (s : Nat) : AV → Option (List Nat × List AV × Nat × List Ob)
  | .s k off n _ => match m k with
    | some b => match b.mixed with
      | some cs => some ([k], (cs.drop off).take (n * s), n, [.le (off + n * s) cs.length])
      | none => match b.cells with
        | some cs => some ([k], ((cs.drop off).take (n * s)).map .ex, n, [.le (off + n * s) cs.length])
        | none => none
    | none => none
  | _ => none
theorem baseM_rel {ρ : Rho} {w : World} {m : Nat → Option Blk} {s : Nat} {x : AV} {v : Value} {ks : List Nat} {cs : List AV} {n : Nat} {obs : List Ob} (h : baseM m s x = some (ks, cs, n, obs)) (hr : Rel ρ x v) (hm : ∀ k ∈ ks, ∀ b, m k = some b → BRel ρ w k b) (hb : AllOb P obs) :
    ∃ ad cap vs, v = .slice ad n cap ∧ vs.length = n * s ∧ RelL ρ cs vs ∧ ((cap = 0 ∧ vs = []) ∨ ∃ k l rest, ks = [k] ∧ ρ k = some l ∧ l.c ≠ 0 ∧ ad = some ⟨l.b, 0, none⟩ ∧ Has w l.b (vs ++ rest) ∧ (vs ++ rest).length = cap * s) := by
  have nil : RelL ρ ([] : List AV) [] := ⟨rfl, fun i x v h => by simp at h⟩
  unfold baseM at h
  split at h
  · cases h; cases hr; exact ⟨_, _, [], rfl, by simp, nil, .inl ⟨rfl, rfl⟩⟩
  · rename_i n c
    split at h
    · rename_i h0
      cases h
      have : n = 0 ∧ c = 0 := by simpa using h0
      obtain ⟨rfl, rfl⟩ := this
      cases hr with
      | s _ => exact ⟨_, _, [], rfl, by simp, nil, .inl ⟨rfl, rfl⟩⟩
      | sn => exact ⟨_, _, [], rfl, by simp, nil, .inl ⟨rfl, rfl⟩⟩
    · cases h
  · rename_i k off n
    split at h
    · rename_i s' cs' hk
      split at h
      · rename_i h0
        cases h
        have : off = 0 ∧ s' = s := by simpa using h0
        obtain ⟨rfl, rfl⟩ := this
        obtain ⟨b1, b2, _⟩ := hb
        have e1 : n * s' = cs.length := Nat.le_antisymm b1 b2
        obtain ⟨l, vs, f1, f2, f5, f3⟩ := hm k (by simp) _ hk
        have hvl : vs.length = n * s' := by rw [← f5.1, e1]
        rcases f3 with ⟨f3, rfl⟩ | ⟨f3, rest, f4, f6⟩
        · cases hr with
          | o el _ hle => rw [f1] at el; cases el; exact ⟨_, _, [], rfl, hvl, f5, .inl ⟨by omega, rfl⟩⟩
          | on el hc => exact ⟨_, _, [], rfl, hvl, f5, .inl ⟨rfl, rfl⟩⟩
        · cases hr with
          | o el _ _ => rw [f1] at el; cases el; exact ⟨_, _, vs, rfl, hvl, f5, .inr ⟨k, l, rest, rfl, f1, f3, rfl, f4, by simpa using f6⟩⟩
          | on el hc => rw [f1] at el; cases el; omega
      · cases h
    · cases h
  · cases h
theorem srcM_rel {ρ : Rho} {w : World} {m : Nat → Option Blk} {s : Nat} {x : AV} {v : Value} {rd : List Nat} {xs : List AV} {n : Nat} {obs : List Ob} (h : srcM m s x = some (rd, xs, n, obs)) (hr : Rel ρ x v) (hm : ∀ k ∈ rd, ∀ b, m k = some b → BRel ρ w k b) (hb : AllOb P obs) :
    ∃ us, RelL ρ xs us ∧ us.length = n * s ∧ ((∃ ad c, v = .slice (some ad) n c ∧ ∀ j u, us[j]? = some u → w.cell? (ad.add j) = some u) ∨ (n = 0 ∧ ∃ a c, v = .slice a 0 c)) := by
  unfold srcM at h
  split at h
  · rename_i k off n' c
    split at h
    · rename_i b hk
      have fin : ∀ (l : Loc) (us : List Value) (cap : Nat), ρ k = some l → (∀ (i : Nat) (v : Value), us[i]? = some v → w.cell? ⟨l.b, l.d + i, none⟩ = some v) → ∀ (j : Nat) (u : Value), ((us.drop off).take (n' * s))[j]? = some u → w.cell? ((⟨l.b, l.d + off, none⟩ : Addr).add j) = some u := fun l us cap hl hc j u hj => by
        rw [addr_add, Nat.add_assoc]
        exact hc _ _ (cut_get hj)
      split at h
      · rename_i cs hcs
        cases h
        obtain ⟨b1, _⟩ := hb
        have b1 : off + n * s ≤ cs.length := b1
        have hbr := hm k (by simp) b hk
        obtain ⟨l0, hl0⟩ := hbr.loc
        obtain ⟨us, hus, hcell⟩ := hbr.mixed hcs hl0
        refine ⟨(us.drop off).take (n * s), hus.cut off (n * s), by have := hus.1; simp; omega, ?_⟩
        cases hr with
        | s el => rw [hl0] at el; cases el; exact .inl ⟨_, _, rfl, fin l0 us 0 hl0 hcell⟩
        | sn => exact .inr ⟨rfl, _, _, rfl⟩
      · split at h
        · rename_i cs hcs
          cases h
          obtain ⟨b1, _⟩ := hb
          have b1 : off + n * s ≤ cs.length := b1
          have hbr := hm k (by simp) b hk
          obtain ⟨l0, hl0⟩ := hbr.loc
          refine ⟨(cs.drop off).take (n * s), .exs ρ _, by simp; omega, ?_⟩
          cases hr with
          | s el => rw [hl0] at el; cases el; exact .inl ⟨_, _, rfl, fin l0 cs 0 hl0 fun i v hi => hbr.cell hcs hl0 hi⟩
          | sn => exact .inr ⟨rfl, _, _, rfl⟩
        · cases h
    · cases h
  · cases h
def evAppendA (P : Program) (ev : Operand → AV) (m : Nat → Option Blk) (nk : Nat) (t tx : TypeId) (x y : Operand) : Option (Res × List Ob) :=
  match P.underlying t, P.underlying tx with
  | some (.slice e), some (.slice _) => match P.info? e with
    | some i => match i.zero, baseM m i.size (ev x), srcM m i.size (ev y) with
      | some z, some (ks, cs, n, ob1), some (rd, xs, k, ob2) => if z.cells.toList.length = i.size ∧ 0 < i.size ∧ z.cells.toList.all (·.oneCell') = true ∧ ks.all (fun k => !rd.contains k) = true then
          some ({ val := .o nk 0 (n + k), upd := [(nk, .rowA i.size (cs ++ xs))], nks := [nk], wks := ks, kill := ks, rd := ks ++ rd }, .le ((n + k) * i.bytes) 140737488355328 :: .le (n + k) 140737488355328 :: .one (AV.oneA (.agg xs)) :: (ob1 ++ ob2)) else none
      | _, _, _ => none
    | none => none
  | _, _ => none
theorem evAppendA_ok {ev : Operand → AV} {m : Nat → Option Blk} {o : Oper} {nk : Nat} {t tx : TypeId} {x y : Operand} {r : Res} {obs : List Ob} (ho : o.op = .call { callee := .builtin .append, args := #[x, y], argTypes := #[t, tx] }) (h : evAppendA P ev m nk t tx x y = some (r, obs)) (hb : AllOb P obs) : OpOK0 P G o ev m r := by
  have hx : x ∈ o.op.operands := by rw [ho]; simp [Op.operands, Call.operands]
  have hy : y ∈ o.op.operands := by rw [ho]; simp [Op.operands, Call.operands]
  have split2 : ∀ (a b : List Ob), AllOb P (a ++ b) → AllOb P a ∧ AllOb P b := fun a => by
    induction a with
    | nil => exact fun b h => ⟨trivial, h⟩
    | cons x a ih => exact fun b h => ⟨⟨h.1, (ih b h.2).1⟩, (ih b h.2).2⟩
  have exec : ∀ (a : Act) (w w' : World) (v : Value), (Builtin.append_ #[t, tx] o.type #[a.eval x, a.eval y]).run P w = .ok v w' → (execOp a.eval o).run P w = .ok (.value v) w' := fun a w w' v hv => by
    simp [execOp, ho, resolve, invoke, builtin, hv]
  unfold evAppendA at h
  split at h
  · rename_i e e2 hu hd
    split at h
    · rename_i i hi
      split at h
      · rename_i z ks cs n ob1 rd xs k ob2 hz hbase hsrc
        split at h
        · rename_i hs
          obtain ⟨hs1, hs2, hs3, hs4⟩ := hs
          cases h
          obtain ⟨b1, b2, b3, b4⟩ := hb
          obtain ⟨b4, b5⟩ := split2 _ _ b4
          have b1 : (n + k) * i.bytes ≤ 140737488355328 := b1
          have b2 : n + k ≤ 140737488355328 := b2
          have b3 : (AV.oneA (.agg xs)).all (·.oneCell') = true := b3
          refine OpOK0.of_run fun ρ a w g1 g2 g3 => ?_
          have hnk : ρ nk = none := g3 nk (by simp)
          obtain ⟨ad, cap, vs, hax, hvl, hvr, hcase⟩ := baseM_rel hbase (g1 x hx) (fun k' hk' => g2 k' (by simp [hk'])) b4
          obtain ⟨us, hur, hul, hsr⟩ := srcM_rel hsrc (g1 y hy) (fun k' hk' => g2 k' (by simp [hk'])) b5
          have hone : ∀ u ∈ us, u.oneCell' = true := by
            have := one_of_rel (x := .agg xs) (v := .agg us.toArray) (.agg hur.1 hur.2) rfl b3
            simpa [Value.cells] using this
          have hS : Src P i.size tx (a.eval y) k us w := by
            rcases hsr with ⟨ad, c, e1, hc⟩ | ⟨rfl, a', c, e1⟩
            · rw [e1]; exact Src.ofSlice w hd ad k c us hul hc hone
            · have : us = [] := List.length_eq_zero_iff.1 (by omega)
              subst this
              rw [e1]
              cases a' with
              | none => exact Src.ofNil w hd c
              | some ad => exact Src.ofSlice w hd ad 0 c [] (by simp) (fun j u hj => by simp at hj) (fun u hu => by cases hu)
          have hlen2 : (vs ++ us).length = (n + k) * i.size := by rw [List.length_append, hvl, hul, Nat.add_mul]
          by_cases hroom : n + k ≤ cap
          · rcases hcase with ⟨rfl, rfl⟩ | ⟨kk, l, rest, rfl, f1, f3, rfl, f4, f5⟩
            · obtain ⟨rfl, rfl⟩ : n = 0 ∧ k = 0 := by omega
              have hus : us = [] := List.length_eq_zero_iff.1 (by omega)
              subst hus
              have hc0 : (Builtin.firstCells i.size 0 (a.eval y)).run P w = .ok #[] w := hS.cells
              have hl0 : ∀ w', (Builtin.lenOf (a.eval y)).run P w' = .ok 0 w' := hS.len
              refine ⟨.slice ad 0 0, w, ρ.add nk ⟨0, 0, 0⟩, .inl (exec a w w _ ?_), Rho.le_add hnk, fun j hj => Rho.add_other _ _ _ _ (by simpa using hj), ?_, fun k' b' hm' => ?_, Fr.refl _ _ _, fun k' hk' l' hl' hc' => ?_, fun k' hk' k2 hk2 hne => ?_⟩
              · rw [hax]
                cases ad <;> simp [Builtin.append_, run_underlying hu, run_underlying hd, sizeOf, typeInfo, hi, hl0, hc0, storeCells]
              · exact .on (Rho.add_same _ _ _) (by simp)
              · simp at hm'; obtain ⟨rfl, rfl⟩ := hm'
                exact ⟨_, [], Rho.add_same _ _ _, rfl, (hvr.app hur).mono (Rho.le_add hnk), .inl ⟨rfl, rfl⟩⟩
              · simp at hk'; subst hk'; rw [Rho.add_same] at hl'; cases hl'; exact absurd rfl hc'
              · simp at hk' hk2; exact absurd (hk'.trans hk2.symm) hne
            · have hmul : (n + k) * i.size ≤ cap * i.size := Nat.mul_le_mul_right _ hroom
              have hst := run_storeCells_has (P := P) l.b (0 + n * i.size) us 0 (vs ++ rest) w f4 (by rw [List.length_append] at hlen2; omega) hone
              simp only [Nat.add_zero, Nat.zero_add] at hst
              have e1 : (vs ++ rest).take (n * i.size) = vs := by rw [← hvl]; simp
              have e2 : (vs ++ rest).drop (n * i.size + us.length) = rest.drop us.length := by rw [← hvl]; simp
              rw [e1, e2] at hst
              have hnl : (vs ++ us ++ rest.drop us.length).length = cap * i.size := by
                rw [List.length_append, List.length_drop, hlen2]
                rw [List.length_append] at f5 hlen2
                omega
              have hnew : Has (w.setRow l.b (vs ++ us ++ rest.drop us.length).toArray) l.b (vs ++ us ++ rest.drop us.length) := f4.setRow _ (by rw [hnl, f5])
              refine ⟨.slice (some ⟨l.b, 0, none⟩) (n + k) cap, w.setRow l.b (vs ++ us ++ rest.drop us.length).toArray, ρ.add nk ⟨l.b, 0, cap⟩, .inl (exec a w _ _ ?_), Rho.le_add hnk, fun j hj => Rho.add_other _ _ _ _ (by simpa using hj), ?_, fun k' b' hm' => ?_, Fr.setRow (by simp) f1 f3 _, fun k' hk' l' hl' hc' => ?_, fun k' hk' k2 hk2 hne => ?_⟩
              · rw [hax]
                have hc1 := hS.cells
                simp only [List.append_assoc] at hst
                simp [Builtin.append_, run_underlying hu, run_underlying hd, sizeOf, typeInfo, hi, hS.len, hc1, hroom, addr_add, hst]
              · have := Rel.o (ρ := ρ.add nk ⟨l.b, 0, cap⟩) (k := nk) (off := 0) (n := n + k) (Rho.add_same _ _ _) rfl (by simp; omega)
                simpa using this
              · simp at hm'; obtain ⟨rfl, rfl⟩ := hm'
                refine ⟨_, vs ++ us, Rho.add_same _ _ _, rfl, (hvr.app hur).mono (Rho.le_add hnk), ?_⟩
                by_cases hc0 : cap = 0
                · exact .inl ⟨hc0, List.length_eq_zero_iff.1 (by rw [hlen2]; have : n + k = 0 := by omega
                                                                 rw [this, Nat.zero_mul])⟩
                · exact .inr ⟨hc0, rest.drop us.length, hnew, hnl⟩
              · simp at hk'; subst hk'; rw [Rho.add_same] at hl'; cases hl'
                exact ⟨hnew.lt, .inr ⟨kk, by simp, l, f1, f3, rfl⟩⟩
              · simp at hk' hk2; exact absurd (hk'.trans hk2.symm) hne
          · have hold : (Builtin.firstCells i.size n (.slice ad n cap)).run P w.drew = .ok vs.toArray w.drew := by
              rcases hcase with ⟨_, rfl⟩ | ⟨kk, l, rest, _, f1, f3, rfl, f4, f5⟩
              · have hn0 : n * i.size = 0 := by simpa using hvl.symm
                cases ad with
                | none => simp [Builtin.firstCells]
                | some ad => simp [Builtin.firstCells, hn0, loadCells, loadCellsFrom]
              · have := run_loadCells_list (P := P) w.drew ⟨l.b, 0, none⟩ vs (fun j u hj => by
                  rw [addr_add, Nat.zero_add]
                  have := f4.cell j
                  rw [List.getElem?_append_left (List.getElem?_eq_some_iff.1 hj).1, hj] at this
                  simpa using this)
                rw [hvl] at this
                simp [Builtin.firstCells, this]
            have hg := run_append_grow_src (P := P) w t tx o.type e i z hu hi hz ad n cap vs hold (a.eval y) k us hS (by omega) (by omega) (growslice_fits (by omega) b1)
            have hge := grownCap_ge w (n + k) cap e
            generalize grownCap w (n + k) cap e = nc at hg hge
            have hzl : ∀ q, (Builtin.zeroCells z.cells q).toList.length = q * i.size := fun q => by
              have : z.cells.size = i.size := by simpa using hs1
              simp [Builtin.zeroCells, this]
            have hcells : (vs ++ us).toArray ++ Builtin.zeroCells z.cells (nc - (n + k)) = (vs ++ us ++ (Builtin.zeroCells z.cells (nc - (n + k))).toList).toArray := by simp
            rw [hcells] at hg
            have hnl : (vs ++ us ++ (Builtin.zeroCells z.cells (nc - (n + k))).toList).length = nc * i.size := by
              rw [List.length_append, hlen2, hzl, ← Nat.add_mul]
              congr 1; omega
            have hnc : nc ≠ 0 := by omega
            refine ⟨_, w.drew.alloc (.cells (vs ++ us ++ (Builtin.zeroCells z.cells (nc - (n + k))).toList).toArray e), ρ.add nk ⟨w.heap.size, 0, nc⟩, .inl (exec a w _ _ (by rw [hax]; exact hg)), Rho.le_add hnk, fun j hj => Rho.add_other _ _ _ _ (by simpa using hj), ?_, fun k' b' hm' => ?_, ⟨rfl, rfl, rfl, by simp, fun b hlt _ => Below.heap_alloc w.drew _ b hlt⟩, fun k' hk' l' hl' hc' => ?_, fun k' hk' k2 hk2 hne => ?_⟩
            · have := Rel.o (ρ := ρ.add nk ⟨w.heap.size, 0, nc⟩) (k := nk) (off := 0) (n := n + k) (Rho.add_same _ _ _) rfl (by simp; omega)
              simpa using this
            · simp at hm'; obtain ⟨rfl, rfl⟩ := hm'
              exact ⟨_, vs ++ us, Rho.add_same _ _ _, rfl, (hvr.app hur).mono (Rho.le_add hnk), .inr ⟨hnc, _, Has.alloc w.drew _ e, hnl⟩⟩
            · simp at hk'; subst hk'; rw [Rho.add_same] at hl'; cases hl'
              exact ⟨by simp, .inl (Nat.le_refl _)⟩
            · simp at hk' hk2; exact absurd (hk'.trans hk2.symm) hne
        · cases h
      · cases h
    · cases h
  · cases h

/-! append, to rows of elements of exact cells -/
def baseX (m : Nat → Option Blk) (s : Nat) : AV → Option (List Nat × List Value × Nat × List Ob)
  | .ex (.slice none 0 0) => some ([], [], 0, [])
  | .s _ _ n c => if Nat.beq n 0 && Nat.beq c 0 then some ([], [], 0, []) else none
  | .o k off n => match m k with
    | some (.rowX s' cs) => if Nat.beq off 0 && Nat.beq s' s then some ([k], cs, n, [.le (n * s) cs.length, .le cs.length (n * s)]) else none
    | _ => none
  | _ => none
def srcX (m : Nat → Option Blk) (s : Nat) : AV → Option (List Nat × List Value × Nat × List Ob)
  | .s k off n _ => match m k with
    | some b => match b.cells with
      | some cs => some ([k], (cs.drop off).take (n * s), n, [.le (off + n * s) cs.length])
      | none => none
    | none => none
  | _ => none
def evAppendX (P : Program) (ev : Operand → AV) (m : Nat → Option Blk) (nk : Nat) (t tx : TypeId) (x y : Operand) : Option (Res × List Ob) :=
  match P.underlying t, P.underlying tx with
  | some (.slice e), some (.slice _) => match P.info? e with
    | some i => match i.zero, baseX m i.size (ev x), srcX m i.size (ev y) with
      | some z, some (ks, cs, n, ob1), some (rd, xs, k, ob2) => if z.cells.toList.length = i.size ∧ 0 < i.size ∧ z.cells.toList.all (·.oneCell') = true ∧ ks.all (fun k => !rd.contains k) = true then
          some ({ val := .o nk 0 (n + k), upd := [(nk, .rowX i.size (cs ++ xs))], nks := [nk], wks := ks, kill := ks, rd := ks ++ rd }, .le ((n + k) * i.bytes) 140737488355328 :: .le (n + k) 140737488355328 :: .one xs :: (ob1 ++ ob2)) else none
      | _, _, _ => none
    | none => none
  | _, _ => none
/-- A block, its cells told as mixed ones. -/
def mxB : Blk → Blk
  | .rowX s cs => .rowA s (cs.map .ex)
  | b => b
theorem mxB_wr (b : Blk) : (mxB b).wr = b.wr := by cases b <;> rfl
theorem mxB_rel {ρ : Rho} {w : World} {k : Nat} {b : Blk} (h : BRel ρ w k b) : BRel ρ w k (mxB b) := by
  cases b with
  | rowX s cs => obtain ⟨l, h1, h2, h3⟩ := h; exact ⟨l, cs, h1, h2, .exs ρ cs, h3⟩
  | own _ => exact h
  | mix _ => exact h
  | view _ => exact h
  | mixv _ => exact h
  | row _ => exact h
  | rowA _ _ => exact h
  | old _ => exact h
  | rows _ => exact h
theorem mxB_old {W : World} {X : Nat → Prop} {ρ : Rho} {k : Nat} {b : Blk} (h : OldB W X ρ k b) : OldB W X ρ k (mxB b) := by
  cases b with
  | old cs => exact h
  | rows ls => exact h
  | _ => trivial
theorem mxB_cells {b : Blk} {cs : List Value} (h : b.cells = some cs) : ((mxB b).mixed = some (cs.map .ex) ∧ ∃ s, b = .rowX s cs) ∨ (mxB b = b ∧ b.mixed = none) := by
  cases b <;> first | (cases h; exact .inr ⟨rfl, rfl⟩) | (cases h; exact .inl ⟨rfl, _, rfl⟩) | cases h
theorem oneA_exs : ∀ (l : List Value), AV.oneA (.agg (l.map AV.ex)) = l
  | [] => rfl
  | v :: l => congrArg (v :: ·) (oneA_exs l)
theorem evAppendX_ok {ev : Operand → AV} {m : Nat → Option Blk} {o : Oper} {nk : Nat} {t tx : TypeId} {x y : Operand} {r : Res} {obs : List Ob} (ho : o.op = .call { callee := .builtin .append, args := #[x, y], argTypes := #[t, tx] }) (h : evAppendX P ev m nk t tx x y = some (r, obs)) (hb : AllOb P obs) : OpOK0 P G o ev m r := by
  unfold evAppendX at h
  split at h
  · rename_i e e2 hu hd
    split at h
    · rename_i i hi
      split at h
      · rename_i z ks cs n ob1 rd xs k ob2 hz hbase hsrc
        split at h
        · rename_i hs
          cases h
          have e1 : baseM (fun k => (m k).map mxB) i.size (ev x) = some (ks, cs.map .ex, n, ob1) := by
            unfold baseX at hbase
            unfold baseM
            split at hbase
            · cases hbase; rfl
            · split at hbase
              · rename_i h0; cases hbase; simp [h0]
              · cases hbase
            · split at hbase
              · rename_i s' cs' hk
                split at hbase
                · rename_i h0
                  cases hbase
                  simp only [hk, Option.map_some, mxB, h0, if_true, List.length_map]
                · cases hbase
              · cases hbase
            · cases hbase
          have e2' : ∃ xs', srcM (fun k => (m k).map mxB) i.size (ev y) = some (rd, xs', k, ob2) ∧ xs' = xs.map .ex := by
            unfold srcX at hsrc
            unfold srcM
            split at hsrc
            · split at hsrc
              · rename_i b hk
                split at hsrc
                · rename_i cs' hcs
                  cases hsrc
                  rcases mxB_cells hcs with ⟨hm, s, rfl⟩ | ⟨hm, hm2⟩
                  · refine ⟨_, ?_, rfl⟩
                    simp only [hk, Option.map_some, mxB, Blk.mixed, List.map_take, List.map_drop, List.length_map]
                  · refine ⟨_, ?_, rfl⟩
                    simp only [hk, Option.map_some, hm, hm2, hcs]
                · cases hsrc
              · cases hsrc
            · cases hsrc
          obtain ⟨xs', e2', rfl⟩ := e2'
          have e3 : evAppendA P ev (fun k => (m k).map mxB) nk t tx x y = some ({ val := .o nk 0 (n + k), upd := [(nk, .rowA i.size (cs.map .ex ++ xs.map .ex))], nks := [nk], wks := ks, kill := ks, rd := ks ++ rd }, .le ((n + k) * i.bytes) 140737488355328 :: .le (n + k) 140737488355328 :: .one (AV.oneA (.agg (xs.map .ex))) :: (ob1 ++ ob2)) := by
            unfold evAppendA
            simp only [hu, hd, hi, hz, e1, e2', hs, and_self, if_true]
          have hA := evAppendA_ok (G := G) ho e3 (by rw [oneA_exs]; exact hb)
          intro ρ a w Q K h1 h2 h3 h5 h6 h7 h4
          refine hA ρ a w Q K h1 (fun k' hk' b hb' => ?_) h3 (fun k1 hk1 k2 hk2 hne b b' l l' hb1 hb2 hw => ?_) h6 (fun k' hk' b hb' => ?_) (fun v w' ρ' hst => ?_)
          · obtain ⟨b0, q1, rfl⟩ := Option.map_eq_some_iff.1 hb'
            exact mxB_rel (h2 k' hk' b0 q1)
          · obtain ⟨b0, q1, rfl⟩ := Option.map_eq_some_iff.1 hb1
            obtain ⟨b0', q2, rfl⟩ := Option.map_eq_some_iff.1 hb2
            rw [mxB_wr] at hw
            exact h5 k1 hk1 k2 hk2 hne b0 b0' l l' q1 q2 hw
          · obtain ⟨b0, q1, rfl⟩ := Option.map_eq_some_iff.1 hb'
            exact mxB_old (h7 k' hk' b0 q1)
          · refine h4 v w' ρ' ⟨hst.ext, hst.same, hst.val, fun k' b' hm' => ?_, hst.fr, hst.new, hst.dist⟩
            simp at hm'; obtain ⟨rfl, rfl⟩ := hm'
            obtain ⟨l, vs, q1, q2, q3, q4⟩ := hst.upd k' (.rowA i.size (cs.map .ex ++ xs.map .ex)) (by simp)
            rw [← List.map_append] at q3
            have := exAll_rel (l := (cs ++ xs).map .ex) (vs := cs ++ xs) (by
              clear q3 q4 hst
              induction (cs ++ xs) with
              | nil => rfl
              | cons v l ih => simp [exAll, ih]) q3
            subst this
            exact ⟨l, q1, q2, q4⟩
        · cases h
      · cases h
    · cases h
  · cases h

/-! lengths, strings, tuples, closures -/
def evLen (P : Program) (t : TypeId) (x : AV) : Option (Res × List Ob) :=
  match P.underlying t, x with
  | some (.slice _), .s _ _ n _ => some ({ val := .ex (.int .i64 n) }, [])
  | some (.slice _), .o _ _ n => some ({ val := .ex (.int .i64 n) }, [])
  | some (.slice _), .sv _ _ n => some ({ val := .ex (.int .i64 n) }, [])
  | some (.array n _), _ => some ({ val := .ex (.int .i64 n) }, [])
  | _, _ => none
theorem evLen_ok {ev : Operand → AV} {m : Nat → Option Blk} {o : Oper} {t : TypeId} {x : Operand} {r : Res} {obs : List Ob} (ho : o.op = .call { callee := .builtin .len, args := #[x], argTypes := #[t] }) (h : evLen P t (ev x) = some (r, obs)) : OpOK0 P G o ev m r := by
  have hx : x ∈ o.op.operands := by rw [ho]; simp [Op.operands, Call.operands]
  unfold evLen at h
  split at h
  · rename_i e k off n c hu hxx
    cases h
    refine OpOK0.of_run fun ρ a w g1 _ _ => ⟨_, w, ρ, .inl ?_, StepOf.plain (.ex _)⟩
    have rx := g1 x hx
    rw [hxx] at rx
    generalize hax : a.eval x = u at rx
    cases rx <;> simp [execOp, ho, resolve, invoke, builtin, Builtin.len_, run_underlying hu, hax, goInt]
  · rename_i e k off n hu hxx
    cases h
    refine OpOK0.of_run fun ρ a w g1 _ _ => ⟨_, w, ρ, .inl ?_, StepOf.plain (.ex _)⟩
    have rx := g1 x hx
    rw [hxx] at rx
    generalize hax : a.eval x = u at rx
    cases rx <;> simp [execOp, ho, resolve, invoke, builtin, Builtin.len_, run_underlying hu, hax, goInt]
  · rename_i e k off n hu hxx
    cases h
    refine OpOK0.of_run fun ρ a w g1 _ _ => ⟨_, w, ρ, .inl ?_, StepOf.plain (.ex _)⟩
    have rx := g1 x hx
    rw [hxx] at rx
    generalize hax : a.eval x = u at rx
    cases rx <;> simp [execOp, ho, resolve, invoke, builtin, Builtin.len_, run_underlying hu, hax, goInt]
  · rename_i n e hu
    cases h
    refine OpOK0.of_run fun ρ a w g1 _ _ => ⟨_, w, ρ, .inl ?_, StepOf.plain (.ex _)⟩
    simp [execOp, ho, resolve, invoke, builtin, Builtin.len_, run_underlying hu, goInt]
  · cases h
/-- The string of byte cells. -/
def strOf (cs : List Value) : ByteArray := cs.foldl (fun r v => match v with | .int _ n => r.push (UInt8.ofNat n.toNat) | _ => r) ByteArray.empty
theorem u8_ints : ∀ (cs : List Value), cs.all isU8 = true → ∃ ns : List Int, cs = ns.map (Value.int .u8)
  | [], _ => ⟨[], rfl⟩
  | v :: cs, h => by
    rw [List.all_cons, Bool.and_eq_true] at h
    obtain ⟨ns, rfl⟩ := u8_ints cs h.2
    have h1 := h.1
    unfold isU8 at h1
    split at h1
    · exact ⟨_ :: ns, rfl⟩
    · cases h1
def evBytesStr (P : Program) (m : Nat → Option Blk) (src dst : TypeId) (x : AV) : Option (Res × List Ob) :=
  match P.underlying src, P.underlying dst, srcA m x with
  | some (.slice e), some .string, some (rd, xs, obs) => match P.underlying e, x with
    | some (.int .u8), .s .. => some ({ val := .ex (.string (strOf xs)), rd := rd }, .u8 xs :: obs)
    | some (.int .u8), .o .. => some ({ val := .ex (.string (strOf xs)), rd := rd }, .u8 xs :: obs)
    | some (.int .u8), .sv .. => some ({ val := .ex (.string (strOf xs)), rd := rd }, .u8 xs :: obs)
    | _, _ => none
  | _, _, _ => none
theorem evBytesStr_ok {ev : Operand → AV} {m : Nat → Option Blk} {o : Oper} {src dst : TypeId} {x : Operand} {r : Res} {obs : List Ob} (ho : o.op = .convert src dst x) (h : evBytesStr P m src dst (ev x) = some (r, obs)) (hb : AllOb P obs) : OpOK0 P G o ev m r := by
  have hx : x ∈ o.op.operands := by rw [ho]; simp [Op.operands]
  have main : ∀ (e : TypeId) (rd : List Nat) (xs : List Value) (obs' : List Ob), P.underlying src = some (.slice e) → P.underlying dst = some .string → P.underlying e = some (.int .u8) → srcA m (ev x) = some (rd, xs, obs') → xs.all isU8 = true → AllOb P obs' → (∀ s, ev x ≠ .ex s) →
      OpOK0 P G o ev m { val := .ex (.string (strOf xs)), rd := rd } := by
    intro e rd xs obs' hs hd he hsrc hu hob hne
    obtain ⟨ns, rfl⟩ := u8_ints xs hu
    refine OpOK0.of_run fun ρ a w g1 g2 _ => ⟨_, w, ρ, .inl ?_, StepOf.plain (.ex _)⟩
    have hsr := srcA_rel hsrc (g1 x hx) g2 hob
    have hstr : strOf (ns.map (Value.int .u8)) = ns.foldl (fun r n => r.push (UInt8.ofNat n.toNat)) ByteArray.empty := by
      unfold strOf; rw [List.foldl_map]
    rcases hsr with ⟨ad, n, c, e1, hn, hc⟩ | ⟨s, e1, _⟩
    · have hr : (convert src dst (a.eval x)).run P w = .ok (.string (strOf (ns.map (Value.int .u8)))) w := by
        rw [e1, run_convert_bytes_string w src dst e ad n c hs he hd, hstr]
        cases ad with
        | none =>
          rcases hc with hc | ⟨_, h0, _⟩
          · have : ns = [] := by rw [hc] at hn; simpa using hn.symm
            subst this
            rfl
          · cases h0
        | some ad =>
          refine run_bytesToString w ad n c ns ?_
          rcases hc with hc | ⟨ad', h0, h1⟩
          · have : ns = [] := by rw [hc] at hn; simpa using hn.symm
            subst this
            subst hc
            rfl
          · cases h0
            rw [hn]
            exact run_loadCells_list (P := P) w ad _ h1
      simp [execOp, ho, hr]
    · have rx := g1 x hx
      rw [e1] at rx
      generalize hxx : ev x = y at rx hsrc hne
      cases rx with
      | ex v => exact absurd rfl (hne _)
      | j v => simp [srcA] at hsrc
  unfold evBytesStr at h
  split at h
  · rename_i e rd xs obs' hs hd hsrc
    split at h
    · rename_i he hxx
      cases h
      exact main e rd xs obs' hs hd he hsrc hb.1 hb.2 (fun s e => by rw [hxx] at e; cases e)
    · rename_i he hxx
      cases h
      exact main e rd xs obs' hs hd he hsrc hb.1 hb.2 (fun s e => by rw [hxx] at e; cases e)
    · rename_i he hxx
      cases h
      exact main e rd xs obs' hs hd he hsrc hb.1 hb.2 (fun s e => by rw [hxx] at e; cases e)
    · cases h
  · cases h
def evExtract (x : AV) (i : Nat) : Option (Res × List Ob) :=
  match x with
  | .tup l => match l[i]? with
    | some y => some ({ val := y }, [])
    | none => none
  | _ => none
theorem evExtract_ok {ev : Operand → AV} {m : Nat → Option Blk} {o : Oper} {x : Operand} {i : Nat} {r : Res} {obs : List Ob} (ho : o.op = .extract x i) (h : evExtract (ev x) i = some (r, obs)) : OpOK0 P G o ev m r := by
  have hx : x ∈ o.op.operands := by rw [ho]; simp [Op.operands]
  unfold evExtract at h
  split at h
  · rename_i l hxx
    split at h
    · rename_i y hy
      cases h
      refine OpOK0.of_run fun ρ a w g1 _ _ => ?_
      have rx := g1 x hx
      rw [hxx] at rx
      generalize hax : a.eval x = u at rx
      cases rx with
      | tup e c =>
        rename_i vs
        have hi : i < vs.length := by rw [← e]; exact (List.getElem?_eq_some_iff.1 hy).1
        refine ⟨vs[i], w, ρ, .inl ?_, StepOf.plain (c i y _ hy (by simp [hi]))⟩
        simp [execOp, ho, hax, Instr.extract, hi]
    · cases h
  · cases h
def evNilCheck (x : AV) : Option (Res × List Ob) :=
  match x with
  | .p k off => some ({ val := .p k off }, [])
  | .f fn caps => some ({ val := .f fn caps }, [])
  | _ => none
theorem evNilCheck_ok {ev : Operand → AV} {m : Nat → Option Blk} {o : Oper} {x : Operand} {r : Res} {obs : List Ob} (ho : o.op = .nilCheck x) (h : evNilCheck (ev x) = some (r, obs)) : OpOK0 P G o ev m r := by
  have hx : x ∈ o.op.operands := by rw [ho]; simp [Op.operands]
  unfold evNilCheck at h
  split at h
  · rename_i k off hxx
    cases h
    refine OpOK0.of_run fun ρ a w g1 _ _ => ?_
    have rx := g1 x hx
    rw [hxx] at rx
    generalize hax : a.eval x = u at rx
    refine ⟨u, w, ρ, .inl ?_, StepOf.plain rx⟩
    cases rx with
    | p el => simp [execOp, ho, hax]
  · rename_i fn caps hxx
    cases h
    refine OpOK0.of_run fun ρ a w g1 _ _ => ?_
    have rx := g1 x hx
    rw [hxx] at rx
    generalize hax : a.eval x = u at rx
    refine ⟨u, w, ρ, .inl ?_, StepOf.plain rx⟩
    cases rx with
    | f e c => simp [execOp, ho, hax]
  · cases h
theorem evMove_ok {ev : Operand → AV} {m : Nat → Option Blk} {o : Oper} {x : Operand} (ho : o.op = .move x ∨ o.op = .assign x) : OpOK0 P G o ev m { val := ev x } := by
  refine OpOK0.of_run fun ρ a w g1 _ _ => ⟨a.eval x, w, ρ, .inl ?_, StepOf.plain ?_⟩
  · rcases ho with ho | ho <;> simp [execOp, ho]
  · refine g1 x ?_
    rcases ho with ho | ho <;> rw [ho] <;> simp [Op.operands]
end

section
variable {P : Program} {G : Nat → Option Nat}
/-- What is called, and with what. -/
def calleeA (P : Program) (ev : Operand → AV) (c : Call) : Option (FuncId × List AV) :=
  match c.callee with
  | .value fx => match ev fx with
    | .ex (.func (.func f) first caps) => if first.isEmpty && caps.isEmpty then match P.funcs[f]? with
        | some fn => if fn.body.isSome && !(fn.name == "runtime.NumGoroutine") then some (f, c.args.toList.map ev) else none
        | none => none
      else none
    | .f f caps => match P.funcs[f]? with
      | some fn => if fn.body.isSome && !(fn.name == "runtime.NumGoroutine") then some (f, c.args.toList.map ev ++ caps.map (fun k => .p k 0)) else none
      | none => none
    | _ => none
  | _ => none
theorem run_callFunc {f : FuncId} {fn : Func} (hfn : P.funcs[f]? = some fn) (hb : (fn.body.isSome && !(fn.name == "runtime.NumGoroutine")) = true) (args : Array Value) (w : World) : (callFunc f args).run P w = .ok (.enter f args) w := by
  rw [Bool.and_eq_true] at hb
  have h1 : ¬ fn.name = "runtime.NumGoroutine" := by simpa using hb.2
  have h2 : ¬ fn.body = none := fun e => by rw [e] at hb; simp at hb
  simp [callFunc, hfn, h1, h2]
def useM (m : Nat → Option Blk) (ks : List Nat) : List (Nat × Blk) := ks.filterMap fun k => (m k).map fun b => (k, b)
theorem evCall_ok {ev : Operand → AV} {m : Nat → Option Blk} {o : Oper} {c : Call} {f : FuncId} {args : List AV} {r : Res} (ho : o.op = .call c) (h : calleeA P ev c = some (f, args)) (hc : CallOK P G f args (useM m r.rd) r) : OpOK0 P G o ev m r := by
  intro ρ a w Q K h1 h2 h3 h5 h6 h7 h4
  have hops : ∀ x ∈ c.operands, Rel ρ (ev x) (a.eval x) := fun x hx => h1 x (by rw [ho]; exact hx)
  have hargs : RelL ρ (c.args.toList.map ev) (c.args.toList.map a.eval) := ⟨by simp, fun i x v g1 g2 => by
    rw [List.getElem?_map] at g1 g2
    cases hi : c.args.toList[i]? with
    | none => rw [hi] at g1; cases g1
    | some y =>
      rw [hi] at g1 g2
      cases g1; cases g2
      exact hops y (by simp only [Call.operands, Array.mem_append]; exact .inr (by simpa using List.mem_of_getElem? hi))⟩
  -- the run comes to the callee's door
  have key : ∃ vs, RelL ρ args vs ∧ (execOp a.eval o).run P w = .ok (.enter f vs.toArray) w := by
    unfold calleeA at h
    split at h
    · rename_i fx hfx
      have hfr := hops fx (by simp [Call.operands, hfx])
      split at h
      · rename_i f' first caps hev
        split at h
        · rename_i he
          rw [Bool.and_eq_true, Array.isEmpty_iff, Array.isEmpty_iff] at he
          obtain ⟨rfl, rfl⟩ := he
          split at h
          · rename_i fn hfn
            split at h
            · rename_i hb
              cases h
              rw [hev] at hfr
              have hfe : a.eval fx = .func (.func f) #[] #[] := by generalize a.eval fx = u at hfr; cases hfr; rfl
              refine ⟨_, hargs, ?_⟩
              simp [execOp, ho, resolve, hfx, hfe, Deferred.ofValue, invoke, run_callFunc hfn hb]
              apply Array.ext'
              simp
            · cases h
          · cases h
        · cases h
      · rename_i f' caps hev
        split at h
        · rename_i fn hfn
          split at h
          · rename_i hb
            cases h
            rw [hev] at hfr
            generalize hfe : a.eval fx = u at hfr
            cases hfr with
            | f el ec =>
              rename_i us
              refine ⟨c.args.toList.map a.eval ++ us, ⟨by simp [el], fun i x v g1 g2 => ?_⟩, ?_⟩
              · rcases Nat.lt_or_ge i (c.args.toList.map ev).length with hi | hi
                · rw [List.getElem?_append_left hi] at g1
                  rw [List.getElem?_append_left (by simpa using hi)] at g2
                  exact hargs.2 i x v g1 g2
                · rw [List.getElem?_append_right hi, List.getElem?_map] at g1
                  rw [List.getElem?_append_right (by simpa using hi)] at g2
                  simp only [List.length_map] at g1 g2
                  cases hk : caps[i - c.args.toList.length]? with
                  | none => rw [hk] at g1; cases g1
                  | some k =>
                    rw [hk] at g1
                    cases g1
                    obtain ⟨l, hl, rfl⟩ := ec _ k v hk g2
                    exact .p (off := 0) hl
              · simp [execOp, ho, resolve, hfx, hfe, Deferred.ofValue, invoke, run_callFunc hfn hb]
                try (apply Array.ext'; simp)
          · cases h
        · cases h
      · cases h
    · cases h
  obtain ⟨vs, hvs, hrun⟩ := key
  unfold Oper.wp
  rw [hrun, Oper.upon_enter]
  have mem : ∀ k b, (k, b) ∈ useM m r.rd → k ∈ r.rd ∧ m k = some b := fun k b hk => by
    obtain ⟨k', hk', e⟩ := List.mem_filterMap.1 hk
    cases hmk : m k' with
    | none => rw [hmk] at e; cases e
    | some b' => rw [hmk] at e; cases e; exact ⟨hk', hmk⟩
  refine (hc ρ w vs hvs (fun k b hk => h2 k (mem k b hk).1 b (mem k b hk).2) h3 (fun k k' b b' l l' hk hk' hne hw hl hl' hc1 hc2 => h5 k (mem k b hk).1 k' (mem k' b' hk').1 hne b b' l l' (mem k b hk).2 (mem k' b' hk').2 hw hl hl' hc1 hc2) h6 (fun k b hk => h7 k (mem k b hk).1 b (mem k b hk).2)).mono ?_
  · rintro e w' ⟨v, ρ', rfl, hs⟩
    exact h4 v w' ρ' hs
def evMakeFunc (fn : Fn) (first captured : Array Operand) (ev : Operand → AV) : Option (Res × List Ob) :=
  match fn with
  | .func f => if first.isEmpty then
      match captured.toList.mapM fun x => match ev x with | .p k 0 => some k | _ => none with
      | some ks => some ({ val := .f f ks }, [])
      | none => none
    else none
  | _ => none
theorem mapM_get {α β : Type} {f : α → Option β} : ∀ {l : List α} {ys : List β}, l.mapM f = some ys → l.length = ys.length ∧ ∀ (i : Nat) (x : α) (y : β), l[i]? = some x → ys[i]? = some y → f x = some y
  | [], ys, h => by simp at h; subst h; simp
  | x :: l, ys, h => by
    rw [List.mapM_cons] at h
    cases hx : f x with
    | none => rw [hx] at h; simp at h
    | some y =>
      cases hl : l.mapM f with
      | none => rw [hx, hl] at h; simp at h
      | some ys' =>
        rw [hx, hl] at h
        simp at h
        subst h
        obtain ⟨h1, h2⟩ := mapM_get hl
        refine ⟨by simp [h1], fun i x' y' g1 g2 => ?_⟩
        cases i with
        | zero => simp at g1 g2; subst g1 g2; exact hx
        | succ i => simp at g1 g2; exact h2 i x' y' g1 g2
theorem evMakeFunc_ok {ev : Operand → AV} {m : Nat → Option Blk} {o : Oper} {fn : Fn} {first captured : Array Operand} {r : Res} {obs : List Ob} (ho : o.op = .makeFunc fn first captured) (h : evMakeFunc fn first captured ev = some (r, obs)) : OpOK0 P G o ev m r := by
  unfold evMakeFunc at h
  split at h
  · rename_i f
    split at h
    · rename_i hfi
      rw [Array.isEmpty_iff] at hfi
      subst hfi
      split at h
      · rename_i ks hks
        cases h
        obtain ⟨e1, e2⟩ := mapM_get hks
        refine OpOK0.of_run fun ρ a w g1 _ _ => ⟨.func (.func f) #[] (captured.toList.map a.eval).toArray, w, ρ, .inl ?_, StepOf.plain (.f (by simp [← e1]) fun i k v h1 h2 => ?_)⟩
        · simp [execOp, ho, Instr.makeFunc]
          apply Array.ext'; simp
        · rw [List.getElem?_map] at h2
          cases hx : captured.toList[i]? with
          | none => rw [hx] at h2; cases h2
          | some x =>
            rw [hx] at h2
            cases h2
            have := e2 i x k hx h1
            split at this
            · rename_i k' hev
              cases this
              have rx := g1 x (by rw [ho]; simp only [Op.operands, Array.mem_append]; exact .inr (by simpa using List.mem_of_getElem? hx))
              rw [hev] at rx
              generalize a.eval x = u at rx
              cases rx with
              | p el => exact ⟨_, el, rfl⟩
            · cases this
      · cases h
    · cases h
  · cases h
def evStrBytes (P : Program) (nk : Nat) (src dst : TypeId) (x : AV) : Option (Res × List Ob) :=
  match P.underlying src, P.underlying dst, x with
  | some _, some (.slice e), .ex (.string s) => match P.underlying e with
    | some (.int .u8) => some ({ val := .o nk 0 s.size, upd := [(nk, .row (byteCells s))], nks := [nk] }, [])
    | _ => none
  | _, _, _ => none
abbrev z8 : Value := .int .u8 0
theorem evStrBytes_ok {ev : Operand → AV} {m : Nat → Option Blk} {o : Oper} {nk : Nat} {src dst : TypeId} {x : Operand} {r : Res} {obs : List Ob} (ho : o.op = .convert src dst x) (h : evStrBytes P nk src dst (ev x) = some (r, obs)) : OpOK0 P G o ev m r := by
  have hx : x ∈ o.op.operands := by rw [ho]; simp [Op.operands]
  unfold evStrBytes at h
  split at h
  · rename_i d e s hs hd hxx
    split at h
    · rename_i he
      cases h
      refine OpOK0.of_run fun ρ a w g1 _ g3 => ?_
      have hnk : ρ nk = none := g3 nk (by simp)
      have rx := g1 x hx
      rw [hxx] at rx
      have hax : a.eval x = .string s := by generalize a.eval x = u at rx; cases rx; rfl
      have hge := grownCap_ge w s.size 0 e
      obtain ⟨nc, hnc⟩ : ∃ nc, nc = grownCap w s.size 0 e := ⟨_, rfl⟩
      rw [← hnc] at hge
      have hcells : (s.data.map fun b => Value.int .u8 b.toNat) ++ Array.replicate (nc - s.size) z8 = (byteCells s ++ List.replicate (nc - s.size) z8).toArray := by
        apply Array.ext'; simp [byteCells]
      have hlen : (byteCells s ++ List.replicate (nc - s.size) z8).length = nc := by rw [List.length_append, byteCells_length, List.length_replicate]; omega
      obtain ⟨W, hW⟩ : ∃ W, W = w.drew.alloc (.cells (byteCells s ++ List.replicate (nc - s.size) z8).toArray e) := ⟨_, rfl⟩
      have hWh : W.heap[w.heap.size]? = some (.cells (byteCells s ++ List.replicate (nc - s.size) z8).toArray e (0, 0)) := by rw [hW]; exact alloc_at w.drew _
      have hfz : (W.freeze ⟨w.heap.size, nc, none⟩ 1).heap[w.heap.size]? = some (.cells (byteCells s ++ List.replicate (nc - s.size) z8).toArray e (nc, nc + 1)) := by
        simp [World.freeze, Array.getElem?_modify, hWh]
      have hother : ∀ b, b < w.heap.size → (W.freeze ⟨w.heap.size, nc, none⟩ 1).heap[b]? = w.heap[b]? := fun b hb => by
        have h1 : W.heap[b]? = w.heap[b]? := by rw [hW]; exact Below.heap_alloc w.drew _ b hb
        have h2 : ¬ w.heap.size = b := by omega
        simp [World.freeze, Array.getElem?_modify, h2, h1]
      have hsize : (W.freeze ⟨w.heap.size, nc, none⟩ 1).heap.size = w.heap.size + 1 := by
        rw [hW]; simp [World.freeze]
      refine ⟨.slice (some ⟨w.heap.size, 0, none⟩) s.size nc, W.freeze ⟨w.heap.size, nc, none⟩ 1, ρ.add nk ⟨w.heap.size, 0, nc⟩, .inl ?_, Rho.le_add hnk, fun j hj => Rho.add_other _ _ _ _ (by simpa using hj), ?_, fun k' b' hm' => ?_, ⟨by rw [hW]; rfl, by rw [hW]; rfl, by rw [hW]; rfl, by omega, fun b hb _ => hother b hb⟩, fun k' hk' l' hl' hc' => ?_, fun k' hk' k2 hk2 hne => ?_⟩
      · have hsh : W.shape? w.heap.size = some (e, nc) := by
          simp only [World.shape?, hWh, List.size_toArray, hlen]
        have hch : (choose (.appendCap s.size 0 e)).run P w = .ok nc w.drew := by
          rw [hnc]; rfl
        have hnew : (newRow e ((s.data.map fun b => Value.int .u8 b.toNat) ++ Array.replicate (nc - s.size) z8)).run P w.drew = .ok ⟨w.heap.size, 0, none⟩ W := by
          rw [hcells, hW]; rfl
        have hmk : (markStringish ⟨w.heap.size, 0, none⟩).run P W = .ok () (W.freeze ⟨w.heap.size, nc, none⟩ 1) := by
          simp [markStringish, shape, Sem.run, hsh, freeze]
        have hc : (Conv.stringToBytes e s).run P w = .ok (.slice (some ⟨w.heap.size, 0, none⟩) s.size nc) (W.freeze ⟨w.heap.size, nc, none⟩ 1) := by
          simp only [Conv.stringToBytes, Sem.run_bind, hch, Result.andThen_ok, hnew, hmk, Sem.run_pure]
        simp only [execOp, ho, hax, convert, Sem.run_bind, run_underlying hs, run_underlying hd, Result.andThen_ok, run_underlying he, hc, Sem.run_pure]
      · have := Rel.o (ρ := ρ.add nk ⟨w.heap.size, 0, nc⟩) (k := nk) (off := 0) (n := s.size) (Rho.add_same _ _ _) rfl (by simp; omega)
        simpa using this
      · simp at hm'; obtain ⟨rfl, rfl⟩ := hm'
        refine ⟨_, Rho.add_same _ _ _, rfl, ?_⟩
        by_cases h0 : nc = 0
        · exact .inl ⟨h0, List.length_eq_zero_iff.1 (by rw [byteCells_length]; omega)⟩
        · exact .inr ⟨h0, _, ⟨e, (nc, nc + 1), hfz, .inr (by rw [hlen]; exact Nat.le_refl _)⟩, hlen⟩
      · simp at hk'; subst hk'; rw [Rho.add_same] at hl'; cases hl'
        exact ⟨by simp only; omega, .inl (Nat.le_refl _)⟩
      · simp at hk' hk2; exact absurd (hk'.trans hk2.symm) hne
    · cases h
  · cases h
/-- A row of bytes, converted to its own type: it is marked, and stays as it is. -/
def evConvSame (P : Program) (m : Nat → Option Blk) (src dst : TypeId) (x : AV) : Option (Res × List Ob) :=
  match P.underlying src, x with
  | some (.slice e), .o k off n => if Nat.beq src dst && Nat.beq off 0 then match P.underlying e, m k with
      | some (.int .u8), some (.row cs) => some ({ val := .o k 0 n, upd := [(k, .row cs)], wks := [k], rd := [k] }, [.le 1 cs.length])
      | _, _ => none
    else none
  | some (.slice e), .s k off n c => if Nat.beq src dst then match P.underlying e, m k with
      | some (.int .u8), some (.own cs) => some ({ val := .s k off n c, upd := [(k, .own cs)], wks := [k], rd := [k] }, [.le 1 n])
      | _, _ => none
    else none
  | _, _ => none
theorem Has.freeze {w : World} {b : Nat} {cs : List Value} (h : Has w b cs) : Has (w.freeze ⟨b, cs.length, none⟩ 1) b cs := by
  obtain ⟨t, fr, h1, h2⟩ := h
  have hlt : b < w.heap.size := (Array.getElem?_eq_some_iff.1 h1).1
  obtain ⟨lo, hi⟩ := fr
  refine ⟨t, if lo == hi then (cs.length, cs.length + 1) else (min lo cs.length, max hi (cs.length + 1)), ?_, ?_⟩
  · simp [World.freeze, Array.getElem?_modify, h1]
  · right
    rcases h2 with h2 | h2
    · simp only at h2
      subst h2
      simp
    · simp only at h2
      split
      · exact Nat.le_refl _
      · simp only; omega
theorem evConvSame_ok {ev : Operand → AV} {m : Nat → Option Blk} {o : Oper} {src dst : TypeId} {x : Operand} {r : Res} {obs : List Ob} (ho : o.op = .convert src dst x) (h : evConvSame P m src dst (ev x) = some (r, obs)) (hb : AllOb P obs) : OpOK0 P G o ev m r := by
  have hx : x ∈ o.op.operands := by rw [ho]; simp [Op.operands]
  unfold evConvSame at h
  split at h
  · rename_i e k off n hs hxx
    split at h
    · rename_i hB
      rw [Bool.and_eq_true] at hB
      have hsd : src = dst := Nat.eq_of_beq_eq_true hB.1
      have ho0 : off = 0 := Nat.eq_of_beq_eq_true hB.2
      subst hsd ho0
      split at h
      · rename_i cs he hm
        cases h
        have hne : 1 ≤ cs.length := hb.1
        refine OpOK0.of_run fun ρ a w g1 g2 _ => ?_
        have rx := g1 x hx
        rw [hxx] at rx
        obtain ⟨l, hl, hd, hrow⟩ := g2 k (by simp) _ hm
        rcases hrow with ⟨_, h0⟩ | ⟨hc, rest, hh, hlen⟩
        · rw [h0] at hne; simp at hne
        · have hax : a.eval x = .slice (some ⟨l.b, 0, none⟩) n (l.c - 0) := by
            generalize a.eval x = u at rx
            cases rx with
            | o e1 _ _ => rw [hl] at e1; cases e1; rfl
            | on e1 e2 => rw [hl] at e1; cases e1; omega
          obtain ⟨t, fr, hcell, hfr⟩ := hh
          have hsh : w.shape? l.b = some (t, (cs ++ rest).length) := by simp only [World.shape?, hcell, List.size_toArray]
          have hmk : (markStringish ⟨l.b, 0, none⟩).run P w = .ok () (w.freeze ⟨l.b, (cs ++ rest).length, none⟩ 1) := by
            simp [markStringish, shape, Sem.run, hsh, Go.freeze]
          have hcv : (convert src src (a.eval x)).run P w = .ok (a.eval x) (w.freeze ⟨l.b, (cs ++ rest).length, none⟩ 1) := by
            rw [hax]
            simp only [convert, Sem.run_bind, run_underlying hs, Result.andThen_ok, run_underlying he, BEq.rfl, hmk, Sem.run_pure]
          have hnew : Has (w.freeze ⟨l.b, (cs ++ rest).length, none⟩ 1) l.b (cs ++ rest) := Has.freeze ⟨t, fr, hcell, hfr⟩
          refine ⟨a.eval x, w.freeze ⟨l.b, (cs ++ rest).length, none⟩ 1, ρ, .inl ?_, Rho.le_refl ρ, fun _ _ => rfl, ?_, fun k' b' hm' => ?_, ⟨rfl, rfl, rfl, ?_, fun b hb' hne' => ?_⟩, fun k' hk' => by simp at hk', fun k' hk' => by simp at hk'⟩
          · simp [execOp, ho, hcv]
          · exact rx
          · simp at hm'
            obtain ⟨rfl, rfl⟩ := hm'
            exact ⟨l, hl, hd, .inr ⟨hc, rest, hnew, hlen⟩⟩
          · simp [World.freeze]
          · have hbb : ¬ l.b = b := hne' k (by simp) l hl hc
            simp [World.freeze, Array.getElem?_modify, hbb]
      · cases h
    · cases h
  · rename_i e k off n c hs hxx
    split at h
    · rename_i hB
      have hsd : src = dst := Nat.eq_of_beq_eq_true hB
      subst hsd
      split at h
      · rename_i cs he hm
        cases h
        have hne : 1 ≤ n := hb.1
        refine OpOK0.of_run fun ρ a w g1 g2 _ => ?_
        have rx := g1 x hx
        rw [hxx] at rx
        obtain ⟨l, hl, hd, hc, hh⟩ := g2 k (by simp) _ hm
        have hax : a.eval x = .slice (some ⟨l.b, l.d + off, none⟩) n c := by
          generalize a.eval x = u at rx
          cases rx with
          | s e1 => rw [hl] at e1; cases e1; rfl
          | sn => omega
        obtain ⟨t, fr, hcell, hfr⟩ := hh
        have hsh : w.shape? l.b = some (t, cs.length) := by simp only [World.shape?, hcell, List.size_toArray]
        have hmk : (markStringish ⟨l.b, l.d + off, none⟩).run P w = .ok () (w.freeze ⟨l.b, cs.length, none⟩ 1) := by
          simp [markStringish, shape, Sem.run, hsh, Go.freeze]
        have hcv : (convert src src (a.eval x)).run P w = .ok (a.eval x) (w.freeze ⟨l.b, cs.length, none⟩ 1) := by
          rw [hax]
          simp only [convert, Sem.run_bind, run_underlying hs, Result.andThen_ok, run_underlying he, BEq.rfl, hmk, Sem.run_pure]
        have hnew : Has (w.freeze ⟨l.b, cs.length, none⟩ 1) l.b cs := Has.freeze ⟨t, fr, hcell, hfr⟩
        refine ⟨a.eval x, w.freeze ⟨l.b, cs.length, none⟩ 1, ρ, .inl ?_, Rho.le_refl ρ, fun _ _ => rfl, ?_, fun k' b' hm' => ?_, ⟨rfl, rfl, rfl, ?_, fun b hb' hne' => ?_⟩, fun k' hk' => by simp at hk', fun k' hk' => by simp at hk'⟩
        · simp [execOp, ho, hcv]
        · exact rx
        · simp at hm'
          obtain ⟨rfl, rfl⟩ := hm'
          exact ⟨l, hl, hd, hc, hnew⟩
        · simp [World.freeze]
        · have hbb : ¬ l.b = b := hne' k (by simp) l hl hc
          simp [World.freeze, Array.getElem?_modify, hbb]
      · cases h
    · cases h
  · cases h
end

section
set_option linter.unusedSimpArgs false
variable {P : Program} {G : Nat → Option Nat}
def evNilEq (P : Program) (op : BinOp) (t : TypeId) (x y : AV) : Option (Res × List Ob) :=
  match op, P.underlying t, x, y with
  | .eql, some (.pointer _), .p _ _, .ex (.pointer none) => some ({ val := .ex (.bool false) }, [])
  | .neq, some (.pointer _), .p _ _, .ex (.pointer none) => some ({ val := .ex (.bool true) }, [])
  | _, _, _, _ => none
theorem run_equal_nil {t e : TypeId} (hu : P.underlying t = some (.pointer e)) (ad : Addr) (w : World) : (Op.equal t (.pointer (some ad)) (.pointer none)).run P w = .ok false w := by
  unfold Op.equal Op.maxDepth Op.equalIn
  simp only [Sem.run_bind, run_underlying hu, Result.andThen_ok, Sem.run_pure]
theorem evNilEq_ok {ev : Operand → AV} {m : Nat → Option Blk} {o : Oper} {op : BinOp} {t u : TypeId} {x y : Operand} {r : Res} {obs : List Ob} (ho : o.op = .binOp op t x y u) (h : evNilEq P op t (ev x) (ev y) = some (r, obs)) : OpOK0 P G o ev m r := by
  have hx : x ∈ o.op.operands := by rw [ho]; simp [Op.operands]
  have hy : y ∈ o.op.operands := by rw [ho]; simp [Op.operands]
  unfold evNilEq at h
  split at h
  · rename_i e k off hu hxx hyy
    cases h
    refine OpOK0.of_run fun ρ a w g1 _ _ => ⟨_, w, ρ, .inl ?_, StepOf.plain (.ex _)⟩
    have rx := g1 x hx
    have ry := g1 y hy
    rw [hxx] at rx
    rw [hyy] at ry
    generalize hax : a.eval x = u at rx
    generalize hay : a.eval y = v at ry
    cases rx; cases ry
    rename_i l _
    have h1 : (eqGuard .eql t x y (.pointer (some ⟨l.b, l.d + off, none⟩)) (.pointer none)).run P w = .ok () w := rfl
    have h2 : binOp .eql t (.pointer (some ⟨l.b, l.d + off, none⟩)) (.pointer none) = (do pure (.bool ((← Op.equal t (.pointer (some ⟨l.b, l.d + off, none⟩)) (.pointer none))))) := rfl
    simp only [execOp, ho, hax, hay, Sem.run_bind, h1, Result.andThen_ok, h2, run_equal_nil hu, Sem.run_pure, Bool.not_false]
  · rename_i e k off hu hxx hyy
    cases h
    refine OpOK0.of_run fun ρ a w g1 _ _ => ⟨_, w, ρ, .inl ?_, StepOf.plain (.ex _)⟩
    have rx := g1 x hx
    have ry := g1 y hy
    rw [hxx] at rx
    rw [hyy] at ry
    generalize hax : a.eval x = u at rx
    generalize hay : a.eval y = v at ry
    cases rx; cases ry
    rename_i l _
    have h1 : (eqGuard .neq t x y (.pointer (some ⟨l.b, l.d + off, none⟩)) (.pointer none)).run P w = .ok () w := rfl
    have h2 : binOp .neq t (.pointer (some ⟨l.b, l.d + off, none⟩)) (.pointer none) = (do pure (.bool (!(← Op.equal t (.pointer (some ⟨l.b, l.d + off, none⟩)) (.pointer none))))) := rfl
    simp only [execOp, ho, hax, hay, Sem.run_bind, h1, Result.andThen_ok, h2, run_equal_nil hu, Sem.run_pure, Bool.not_false]
  · cases h
def evBuildSlice (P : Program) (ev : Operand → AV) (nk : Nat) (t : TypeId) (len : Nat) (parts : Array (Nat × Operand)) : Option (Res × List Ob) :=
  match P.underlying t with
  | some (.slice e) => match P.info? e with
    | some i => match i.zero with
      | some z => if len * i.size ≤ 16777216 && (parts.toList.map (·.2)).all (fun x => (ev x).isEx) then
          match Instr.fill (fun j => some (j * i.size, i.size)) (madeCells (if len * i.size = 0 then #[] else z.cells) (len * i.size)) (parts.toList.map fun p => (p.1, (ev p.2).exV)) with
          | some cells => some ({ val := .s nk 0 len len, upd := [(nk, .own cells.toList)], nks := [nk] }, [])
          | none => none
        else none
      | none => none
    | none => none
  | _ => none
theorem evBuildSlice_ok {ev : Operand → AV} {m : Nat → Option Blk} {o : Oper} {nk : Nat} {t : TypeId} {len : Nat} {parts : Array (Nat × Operand)} {r : Res} {obs : List Ob} (ho : o.op = .buildSlice t len parts) (h : evBuildSlice P ev nk t len parts = some (r, obs)) : OpOK0 P G o ev m r := by
  unfold evBuildSlice at h
  split at h
  · rename_i e hu
    split at h
    · rename_i i hi
      split at h
      · rename_i z hz
        split at h
        · rename_i hc
          rw [Bool.and_eq_true] at hc
          split at h
          · rename_i cells hf
            cases h
            refine OpOK0.of_run fun ρ a w g1 _ g3 => ?_
            have hnk : ρ nk = none := g3 nk (by simp)
            have hle : ¬ (16777216 < len * i.size) := by have := hc.1; simp at this; omega
            have hparts : (parts.map fun p => (p.1, a.eval p.2)).toList = parts.toList.map fun p => (p.1, (ev p.2).exV) := by
              rw [Array.toList_map]
              refine List.map_congr_left fun p hp => ?_
              have := rel_ex (g1 p.2 (by rw [ho]; simp only [Op.operands]; simpa using ⟨p.1, by simpa using hp⟩)) (List.all_eq_true.1 hc.2 p.2 (List.mem_map.2 ⟨p, hp, rfl⟩))
              rw [this]
            refine ⟨_, _, ρ.add nk ⟨w.heap.size, 0, 1⟩, .inl (?_ : _ = Result.ok (Next.value (.slice (some ⟨w.heap.size, 0, none⟩) len len)) (w.alloc (.cells cells e))), StepOf.fresh _ hnk rfl rfl (.s (off := 0) (Rho.add_same _ _ _)) ?_⟩
            · have hn : (newRow e cells).run P w = .ok ⟨w.heap.size, 0, none⟩ (w.alloc (.cells cells e)) := rfl
              have hsz : (sizeOf e).run P w = .ok i.size w := by simp [sizeOf, typeInfo, hi]
              have hzv : (zeroValue e).run P w = .ok z w := by simp [zeroValue, typeInfo, hi, hz]
              have hbs : (Instr.buildSlice t len (parts.map fun p => (p.1, a.eval p.2))).run P w = .ok (.slice (some ⟨w.heap.size, 0, none⟩) len len) (w.alloc (.cells cells e)) := by
                unfold madeCells at hf
                by_cases h0 : len * i.size = 0
                · simp only [h0, if_true] at hf
                  have h24 : (0 > 2 ^ 24) = False := by simp
                  simp only [Instr.buildSlice, Sem.run_bind, run_underlying hu, Result.andThen_ok, hsz, h0, h24, if_false, if_true, Sem.run_pure, hparts, hf, hn]
                · simp only [h0, if_false] at hf
                  have h24 : (len * i.size > 2 ^ 24) = False := by simpa using hle
                  simp only [Instr.buildSlice, Sem.run_bind, run_underlying hu, Result.andThen_ok, hsz, h0, h24, if_false, hzv, Sem.run_pure, hparts, hf, hn]
              simp only [execOp, ho, Sem.run_bind, Sem.run_pure]
              have e1 : (parts.map fun x => match x with | (i, x) => (i, a.eval x)) = parts.map fun p => (p.1, a.eval p.2) := rfl
              rw [e1, hbs]
              rfl
            · exact ⟨_, Rho.add_same _ _ _, rfl, by simp, Has.alloc w cells.toList e⟩
          · cases h
        · cases h
      · cases h
    · cases h
  · cases h
end

section
variable {P : Program} {G : Nat → Option Nat}
/-- Two rows of numbers, held against each other. -/
def eqL : List Int → List Int → Bool
  | [], [] => true
  | x :: xs, y :: ys => (x == y) && eqL xs ys
  | _, _ => false
theorem eqL_iff : ∀ {xs ys : List Int}, eqL xs ys = true ↔ xs = ys
  | [], [] => by simp [eqL]
  | x :: xs, y :: ys => by simp [eqL, eqL_iff (xs := xs) (ys := ys)]
  | [], y :: ys => by simp [eqL]
  | x :: xs, [] => by simp [eqL]
theorem eqL_all : ∀ {xs ys : List Int} {n : Nat}, xs.length = n → ys.length = n → eqL xs ys = (List.range n).all fun i => xs.getD i 0 == ys.getD i 0 := by
  intro xs ys n hx hy
  rw [Bool.eq_iff_iff, eqL_iff, List.all_eq_true]
  constructor
  · rintro rfl i _; simp
  · intro h
    apply List.ext_getElem (by omega)
    intro i h1 h2
    have := h i (by simp; omega)
    simpa [h1, h2] using this
def kindB : IntKind → IntKind → Bool := fun a b => decide (a = b)
def intsK (k : IntKind) : List Value → Option (List Int)
  | [] => some []
  | .int k' a :: l => match kindB k' k with
    | true => match intsK k l with
      | some r => some (a :: r)
      | none => none
    | false => none
  | _ :: _ => none
theorem intsK_eq {k : IntKind} : ∀ {l : List Value} {xs : List Int}, intsK k l = some xs → l = xs.map (Value.int k)
  | [], xs, h => by simp only [intsK] at h; cases h; rfl
  | v :: l, xs, h => by
    unfold intsK at h
    split at h
    · rename_i e; cases e
    · rename_i k' a l' e
      cases e
      split at h
      · rename_i hk
        split at h
        · rename_i r hr
          cases h
          have := of_decide_eq_true hk
          subst this
          rw [intsK_eq hr]; rfl
        · cases h
      · cases h
    · cases h
def evArrEq (P : Program) (op : BinOp) (t : TypeId) (x y : AV) : Option (Res × List Ob) :=
  match x, y, P.underlying t with
  | .ex (.agg a), .ex (.agg b), some (.array n e) => match P.underlying e with
    | some (.int k) => match intsK k a.toList, intsK k b.toList with
      | some xs, some ys => match Nat.beq xs.length n && Nat.beq ys.length n && Nat.beq (P.cellsOf e) 1 && !P.eqGuardType P.depth t with
        | true => match op with
          | .eql => some ({ val := .ex (.bool (eqL xs ys)) }, [])
          | .neq => some ({ val := .ex (.bool (!eqL xs ys)) }, [])
          | _ => none
        | false => none
      | _, _ => none
    | _ => none
  | _, _, _ => none
theorem run_eqItems_ints {e : TypeId} {k : IntKind} (hu : P.underlying e = some (.int k)) (d : Nat) (xs ys : List Int) (w : World) : ∀ (is : List Nat), (∀ i ∈ is, i < xs.length ∧ i < ys.length) →
    (Op.eqItems (d + 1) e 1 (xs.map (Value.int k)).toArray (ys.map (Value.int k)).toArray is).run P w = .ok (is.all fun i => xs.getD i 0 == ys.getD i 0) w
  | [], _ => by simp [Op.eqItems]
  | i :: is, h => by
    have pl : P.plainKey e = true := by unfold Program.plainKey; rw [hu]
    have g : ∀ (zs : List Int), i < zs.length → (part e (zs.map (Value.int k)).toArray (i * 1)).run P w = .ok (.int k (zs.getD i 0)) w := fun zs hz =>
      run_part_plain w pl (by rw [Nat.mul_one]; simp [hz])
    have h1 := g xs (h i (by simp)).1
    have h2 := g ys (h i (by simp)).2
    have ih := run_eqItems_ints hu d xs ys w is (fun j hj => h j (by simp [hj]))
    have he := run_equalIn_int (P := P) w d e k k (xs.getD i 0) (ys.getD i 0) hu
    simp only [Op.eqItems, Sem.run_bind, h1, h2, he, Result.andThen_ok, List.all_cons]
    cases xs.getD i 0 == ys.getD i 0
    · simp
    · simpa using ih
theorem run_equal_ints {t e : TypeId} {n : Nat} {k : IntKind} (ht : P.underlying t = some (.array n e)) (hu : P.underlying e = some (.int k)) (hc : P.cellsOf e = 1) (xs ys : List Int) (hx : xs.length = n) (hy : ys.length = n) (w : World) :
    (Op.equal t (.agg (xs.map (Value.int k)).toArray) (.agg (ys.map (Value.int k)).toArray)).run P w = .ok (eqL xs ys) w := by
  obtain ⟨i, hi⟩ : ∃ i, P.info? e = some i := by
    unfold Program.underlying at hu
    cases hi : P.info? e with
    | none => simp [hi] at hu
    | some i => exact ⟨i, rfl⟩
  unfold Op.equal Op.maxDepth
  rw [show 10000 = 9999 + 1 from rfl, run_equalIn_array w 9999 _ _ ht hi, hc, show 9999 = 9998 + 1 from rfl, run_eqItems_ints hu 9998 xs ys w _ (fun i hi => by simp at hi; omega), eqL_all hx hy]
theorem evArrEq_ok {ev : Operand → AV} {m : Nat → Option Blk} {o : Oper} {op : BinOp} {t u : TypeId} {x y : Operand} {r : Res} {obs : List Ob} (ho : o.op = .binOp op t x y u) (h : evArrEq P op t (ev x) (ev y) = some (r, obs)) : OpOK0 P G o ev m r := by
  have hx : x ∈ o.op.operands := by rw [ho]; simp [Op.operands]
  have hy : y ∈ o.op.operands := by rw [ho]; simp [Op.operands]
  unfold evArrEq at h
  split at h
  case h_2 => cases h
  rename_i a b n e hxx hyy ht
  split at h
  case h_2 => cases h
  rename_i k hu
  split at h
  case h_2 => cases h
  rename_i xs ys hxs hys
  split at h
  case h_2 => cases h
  rename_i hc
  simp only [Bool.and_eq_true, Nat.beq_eq, Bool.not_eq_true'] at hc
  have ea : a = (xs.map (Value.int k)).toArray := by rw [← intsK_eq hxs]
  have eb : b = (ys.map (Value.int k)).toArray := by rw [← intsK_eq hys]
  subst ea eb
  have key := fun w => run_equal_ints (P := P) ht hu hc.1.2 xs ys hc.1.1.1 hc.1.1.2 w
  split at h
  case h_3 => cases h
  all_goals
    cases h
    refine OpOK0.of_run fun ρ a w g1 _ _ => ⟨_, w, ρ, .inl ?_, StepOf.plain (.ex _)⟩
    have rx := g1 x hx
    have ry := g1 y hy
    rw [hxx] at rx
    rw [hyy] at ry
    generalize hax : a.eval x = u at rx
    generalize hay : a.eval y = v at ry
    cases rx; cases ry
  · have h1 : (eqGuard .eql t x y (.agg (xs.map (Value.int k)).toArray) (.agg (ys.map (Value.int k)).toArray)).run P w = .ok () w := by simp [eqGuard, hc.2, Sem.run_bind, Sem.run_pure]
    have h2 : binOp .eql t (.agg (xs.map (Value.int k)).toArray) (.agg (ys.map (Value.int k)).toArray) = (do pure (.bool ((← Op.equal t (.agg (xs.map (Value.int k)).toArray) (.agg (ys.map (Value.int k)).toArray))))) := rfl
    simp only [execOp, ho, hax, hay, Sem.run_bind, h1, Result.andThen_ok, h2, key, Sem.run_pure]
  · have h1 : (eqGuard .neq t x y (.agg (xs.map (Value.int k)).toArray) (.agg (ys.map (Value.int k)).toArray)).run P w = .ok () w := by simp [eqGuard, hc.2, Sem.run_bind, Sem.run_pure]
    have h2 : binOp .neq t (.agg (xs.map (Value.int k)).toArray) (.agg (ys.map (Value.int k)).toArray) = (do pure (.bool (!(← Op.equal t (.agg (xs.map (Value.int k)).toArray) (.agg (ys.map (Value.int k)).toArray))))) := rfl
    simp only [execOp, ho, hax, hay, Sem.run_bind, h1, Result.andThen_ok, h2, key, Sem.run_pure]
/-- The numbers of a struct's cells, field by field, of both. -/
def structE (P : Program) (xs ys : Array Value) : List Field → Option (List Int × List Int)
  | [] => some ([], [])
  | f :: fs => match P.underlying f.type, xs[f.offset]?, ys[f.offset]?, structE P xs ys fs with
    | some (.int _), some (.int k a), some (.int k' b), some (as, bs) => match kindB k k' && f.name != "_" with
      | true => some (a :: as, b :: bs)
      | false => none
    | _, _, _, _ => none
theorem run_eqFields_ints {xs ys : Array Value} (d : Nat) (w : World) : ∀ {fs : List Field} {as bs : List Int}, structE P xs ys fs = some (as, bs) → (Op.eqFields (d + 1) xs ys fs).run P w = .ok (eqL as bs) w
  | [], as, bs, h => by cases h; simp [Op.eqFields, eqL]
  | f :: fs, as, bs, h => by
    unfold structE at h
    split at h
    · rename_i kk k a k' b as' bs' hu hx hy hr
      split at h
      · rename_i hc
        cases h
        simp only [Bool.and_eq_true, kindB, decide_eq_true_eq, bne_iff_ne, ne_eq] at hc
        obtain ⟨rfl, hn⟩ := hc
        have pl : P.plainKey f.type = true := by unfold Program.plainKey; rw [hu]
        have h1 := run_part_plain (P := P) w pl hx
        have h2 := run_part_plain (P := P) w pl hy
        have he := run_equalIn_int (P := P) w d f.type k kk a b hu
        have ih := run_eqFields_ints d w hr
        simp only [Op.eqFields, hn, ne_eq, not_false_eq_true, if_true, Sem.run_bind, h1, h2, he, Result.andThen_ok, eqL]
        cases a == b
        · simp
        · simpa using ih
      · cases h
    · cases h
def evStructEq (P : Program) (op : BinOp) (t : TypeId) (x y : AV) : Option (Res × List Ob) :=
  match x, y, P.underlying t with
  | .ex (.agg a), .ex (.agg b), some (.struct fs) => match structE P a b fs.toList, !P.stoodInHeld t && !P.eqGuardType P.depth t with
    | some (xs, ys), true => match op with
      | .eql => some ({ val := .ex (.bool (eqL xs ys)) }, [])
      | .neq => some ({ val := .ex (.bool (!eqL xs ys)) }, [])
      | _ => none
    | _, _ => none
  | _, _, _ => none
theorem evStructEq_ok {ev : Operand → AV} {m : Nat → Option Blk} {o : Oper} {op : BinOp} {t u : TypeId} {x y : Operand} {r : Res} {obs : List Ob} (ho : o.op = .binOp op t x y u) (h : evStructEq P op t (ev x) (ev y) = some (r, obs)) : OpOK0 P G o ev m r := by
  have hx : x ∈ o.op.operands := by rw [ho]; simp [Op.operands]
  have hy : y ∈ o.op.operands := by rw [ho]; simp [Op.operands]
  unfold evStructEq at h
  split at h
  case h_2 => cases h
  rename_i a b fs hxx hyy ht
  split at h
  case h_2 => cases h
  rename_i xs ys hs hc
  simp only [Bool.and_eq_true, Bool.not_eq_true'] at hc
  have hfs : P.fieldsOf t = fs := by simp [Program.fieldsOf, ht]
  have key : ∀ w, (Op.equalIn 10000 t (.agg a) (.agg b)).run P w = .ok (eqL xs ys) w := fun w => by
    rw [show 10000 = 9999 + 1 from rfl, run_equalIn_struct w 9999 t a b (by rw [hfs]; exact ht) hc.1, hfs, show 9999 = 9998 + 1 from rfl, run_eqFields_ints 9998 w hs]
  split at h
  case h_3 => cases h
  all_goals
    cases h
    refine OpOK0.of_run fun ρ a' w g1 _ _ => ⟨_, w, ρ, .inl ?_, StepOf.plain (.ex _)⟩
    have rx := g1 x hx
    have ry := g1 y hy
    rw [hxx] at rx
    rw [hyy] at ry
    generalize hax : a'.eval x = u at rx
    generalize hay : a'.eval y = v at ry
    cases rx; cases ry
  · have h1 := run_eqGuard_agg (P := P) w .eql t x y a b hc.2
    have h2 := run_eql_struct (P := P) w t a b
    rw [key] at h2
    simp only [Result.andThen_ok] at h2
    simp only [execOp, ho, hax, hay, Sem.run_bind, h1, Result.andThen_ok, h2, Sem.run_pure]
  · have h1 := run_eqGuard_agg (P := P) w .neq t x y a b hc.2
    have h2 := run_neq_struct (P := P) w t a b
    rw [key] at h2
    simp only [Result.andThen_ok] at h2
    simp only [execOp, ho, hax, hay, Sem.run_bind, h1, Result.andThen_ok, h2, Sem.run_pure]
def pureP (P : Program) (ev : Operand → AV) (o : Oper) : Option (Res × List Ob) := match evPure P ev o with
  | some r => some (r, [])
  | none => none
def orP (P : Program) (ev : Operand → AV) (o : Oper) (x : Option (Res × List Ob)) : Option (Res × List Ob) := match x with
  | some r => some r
  | none => pureP P ev o
/-! a quotient and a rest by a number that is open; a string's byte at an open place; noughts appended -/
def evDiv (op : BinOp) (x y : AV) : Option (Res × List Ob) := match op, x, y with
  | .quo, .ex (.int k a), .ex (.int k' b) => if k = k' then some ({ val := .ex (.int k (k.wrap (a.tdiv b))) }, [.le 1 b.toNat]) else none
  | .rem, .ex (.int k a), .ex (.int k' b) => if k = k' then some ({ val := .ex (.int k (a.tmod b)) }, [.le 1 b.toNat]) else none
  | _, _, _ => none
theorem evDiv_ok {ev : Operand → AV} {m : Nat → Option Blk} {o : Oper} {op : BinOp} {t u : TypeId} {x y : Operand} {r : Res} {obs : List Ob} (ho : o.op = .binOp op t x y u) (h : evDiv op (ev x) (ev y) = some (r, obs)) (hb : AllOb P obs) : OpOK0 P G o ev m r := by
  have hx : x ∈ o.op.operands := by rw [ho]; simp [Op.operands]
  have hy : y ∈ o.op.operands := by rw [ho]; simp [Op.operands]
  unfold evDiv at h
  split at h
  · rename_i k a k' b hxx hyy
    split at h
    · rename_i hk
      subst hk
      cases h
      obtain ⟨b1, _⟩ := hb
      have b1 : 1 ≤ b.toNat := b1
      have hb0 : ¬ b = 0 := by omega
      refine OpOK0.of_run fun ρ c w g1 _ _ => ⟨_, w, ρ, .inl ?_, StepOf.plain (.ex _)⟩
      have rx := g1 x hx
      have ry := g1 y hy
      rw [hxx] at rx
      rw [hyy] at ry
      generalize hax : c.eval x = p at rx
      generalize hay : c.eval y = q at ry
      cases rx; cases ry
      simp [execOp, ho, hax, hay, eqGuard, binOp, Op.intDiv, hb0]
    · cases h
  · rename_i k a k' b hxx hyy
    split at h
    · rename_i hk
      subst hk
      cases h
      obtain ⟨b1, _⟩ := hb
      have b1 : 1 ≤ b.toNat := b1
      have hb0 : ¬ b = 0 := by omega
      refine OpOK0.of_run fun ρ c w g1 _ _ => ⟨_, w, ρ, .inl ?_, StepOf.plain (.ex _)⟩
      have rx := g1 x hx
      have ry := g1 y hy
      rw [hxx] at rx
      rw [hyy] at ry
      generalize hax : c.eval x = p at rx
      generalize hay : c.eval y = q at ry
      cases rx; cases ry
      simp [execOp, ho, hax, hay, eqGuard, binOp, Op.intDiv, hb0]
    · cases h
  · cases h
/-! sums of floats that are open; a float that is open as a number -/
def fok {α : Type} (o : Option α) : Nat := if o.isSome then 1 else 0
def evFloat (op : BinOp) (x y : AV) : Option (Res × List Ob) := match op, x, y with
  | .add, .ex (.float k a), .ex (.float k' b) => if k = k' then some ({ val := .ex (.float k ((floatBits .add k a b).getD 0)) }, [.le 1 (fok (floatBits .add k a b))]) else none
  | .sub, .ex (.float k a), .ex (.float k' b) => if k = k' then some ({ val := .ex (.float k ((floatBits .sub k a b).getD 0)) }, [.le 1 (fok (floatBits .sub k a b))]) else none
  | .add, .ex (.complex k a b), .ex (.complex k' c d) => if k = k' then some ({ val := .ex (.complex k ((floatBits .add k a c).getD 0) ((floatBits .add k b d).getD 0)) }, [.le 1 (fok (floatBits .add k a c)), .le 1 (fok (floatBits .add k b d))]) else none
  | _, _, _ => none
theorem fok_some {α : Type} {o : Option α} (h : 1 ≤ fok o) (d : α) : o = some (o.getD d) := by
  unfold fok at h
  cases o with
  | none => simp at h
  | some x => rfl
theorem evFloat_ok {ev : Operand → AV} {m : Nat → Option Blk} {o : Oper} {op : BinOp} {t u : TypeId} {x y : Operand} {r : Res} {obs : List Ob} (ho : o.op = .binOp op t x y u) (h : evFloat op (ev x) (ev y) = some (r, obs)) (hb : AllOb P obs) : OpOK0 P G o ev m r := by
  have hx : x ∈ o.op.operands := by rw [ho]; simp [Op.operands]
  have hy : y ∈ o.op.operands := by rw [ho]; simp [Op.operands]
  unfold evFloat at h
  split at h
  · rename_i k a k' b hxx hyy
    split at h
    · rename_i hk
      subst hk
      cases h
      obtain ⟨b1, _⟩ := hb
      have b1 : 1 ≤ fok (floatBits .add k a b) := b1
      refine OpOK0.of_run fun ρ c w g1 _ _ => ⟨_, w, ρ, .inl ?_, StepOf.plain (.ex _)⟩
      have rx := g1 x hx
      have ry := g1 y hy
      rw [hxx] at rx
      rw [hyy] at ry
      generalize hax : c.eval x = p at rx
      generalize hay : c.eval y = q at ry
      cases rx; cases ry
      have e := run_float_arith (P := P) w .add t k a b _ (fok_some b1 0)
      simp [execOp, ho, hax, hay, eqGuard, e]
    · cases h
  · rename_i k a k' b hxx hyy
    split at h
    · rename_i hk
      subst hk
      cases h
      obtain ⟨b1, _⟩ := hb
      have b1 : 1 ≤ fok (floatBits .sub k a b) := b1
      refine OpOK0.of_run fun ρ c w g1 _ _ => ⟨_, w, ρ, .inl ?_, StepOf.plain (.ex _)⟩
      have rx := g1 x hx
      have ry := g1 y hy
      rw [hxx] at rx
      rw [hyy] at ry
      generalize hax : c.eval x = p at rx
      generalize hay : c.eval y = q at ry
      cases rx; cases ry
      have e := run_float_arith (P := P) w .sub t k a b _ (fok_some b1 0)
      simp [execOp, ho, hax, hay, eqGuard, e]
    · cases h
  · rename_i k a b k' c' d hxx hyy
    split at h
    · rename_i hk
      subst hk
      cases h
      obtain ⟨b1, b2, _⟩ := hb
      have b1 : 1 ≤ fok (floatBits .add k a c') := b1
      have b2 : 1 ≤ fok (floatBits .add k b d) := b2
      refine OpOK0.of_run fun ρ c w g1 _ _ => ⟨_, w, ρ, .inl ?_, StepOf.plain (.ex _)⟩
      have rx := g1 x hx
      have ry := g1 y hy
      rw [hxx] at rx
      rw [hyy] at ry
      generalize hax : c.eval x = p at rx
      generalize hay : c.eval y = q at ry
      cases rx; cases ry
      have e := run_complex_sum (P := P) w .add (.inl rfl) t k a b c' d _ _ (by unfold cSumBits; rw [fok_some b1 0, fok_some b2 0]; rfl)
      simp [execOp, ho, hax, hay, eqGuard, e]
    · cases h
  · cases h
def evFloatInt (P : Program) (s d : TypeId) (x : AV) : Option (Res × List Ob) := match (P.underlying s).isSome, P.underlying d, x with
  | true, some (.int k), .ex (.float f b) => some ({ val := .ex (.int k ((floatToIntVal f b k).getD 0)) }, [.le 1 (fok (floatToIntVal f b k))])
  | _, _, _ => none
theorem evFloatInt_ok {ev : Operand → AV} {m : Nat → Option Blk} {o : Oper} {src dst : TypeId} {x : Operand} {r : Res} {obs : List Ob} (ho : o.op = .convert src dst x) (h : evFloatInt P src dst (ev x) = some (r, obs)) (hb : AllOb P obs) : OpOK0 P G o ev m r := by
  have hx : x ∈ o.op.operands := by rw [ho]; simp [Op.operands]
  unfold evFloatInt at h
  split at h
  · rename_i k f b hs hd hxx
    cases h
    obtain ⟨b1, _⟩ := hb
    have b1 : 1 ≤ fok (floatToIntVal f b k) := b1
    refine OpOK0.of_run fun ρ c w g1 _ _ => ⟨_, w, ρ, .inl ?_, StepOf.plain (.ex _)⟩
    have rx := g1 x hx
    rw [hxx] at rx
    generalize hax : c.eval x = p at rx
    cases rx
    have e := run_convert_float_int (P := P) w src dst f k b _ hs hd (fok_some b1 0)
    simp only [execOp, ho, hax, Sem.run_bind, Sem.run_pure, Result.andThen_ok, e]
  · cases h
def strAt (s : ByteArray) (i : Nat) : Int := ((s.data.toList.getD i 0).toNat : Int)
def evIndex (P : Program) (t : TypeId) (x y : AV) : Option (Res × List Ob) := match P.underlying t, x, y with
  | some .string, .ex (.string s), .ex (.int _ i) => some ({ val := .ex (.int .u8 (strAt s i.toNat)) }, [.ix i s.size])
  | _, _, _ => none
theorem evIndex_ok {ev : Operand → AV} {m : Nat → Option Blk} {o : Oper} {t : TypeId} {x y : Operand} {r : Res} {obs : List Ob} (ho : o.op = .index t x y) (h : evIndex P t (ev x) (ev y) = some (r, obs)) (hb : AllOb P obs) : OpOK0 P G o ev m r := by
  have hx : x ∈ o.op.operands := by rw [ho]; simp [Op.operands]
  have hy : y ∈ o.op.operands := by rw [ho]; simp [Op.operands]
  unfold evIndex at h
  split at h
  · rename_i s k i hu hxx hyy
    cases h
    obtain ⟨b1, _⟩ := hb
    have b1 : 0 ≤ i ∧ i < (s.size : Int) := b1
    refine OpOK0.of_run fun ρ c w g1 _ _ => ⟨_, w, ρ, .inl ?_, StepOf.plain (.ex _)⟩
    have rx := g1 x hx
    have ry := g1 y hy
    rw [hxx] at rx
    rw [hyy] at ry
    generalize hax : c.eval x = p at rx
    generalize hay : c.eval y = q at ry
    cases rx; cases ry
    have hlt : i.toNat < s.size := by omega
    have e1 : s[i.toNat]? = some s[i.toNat] := by simp [hlt]
    have e2 : strAt s i.toNat = ((s[i.toNat].toNat : Nat) : Int) := by
      unfold strAt
      have hl : i.toNat < s.data.toList.length := by rw [Array.length_toList]; exact hlt
      rw [List.getD_eq_getElem?_getD, List.getElem?_eq_getElem hl]
      rfl
    rw [e2]
    simp [execOp, ho, hax, hay, Instr.index, asIntOf, run_underlying hu, b1.1, e1]
  · cases h
def evAppendMake (P : Program) (nk : Nat) (t tx : TypeId) (x y : AV) : Option (Res × List Ob) :=
  match P.underlying t, P.underlying tx, x, y with
  | some (.slice e), some (.int _), .ex (.slice none 0 0), .ex (.int .i64 n) => match P.info? e with
    | some i => match i.zero with
      | some z => if i.size = 1 ∧ z.oneCell' = true ∧ i.bytes = 1 then some ({ val := .o nk 0 n.toNat, upd := [(nk, .row (List.replicate n.toNat z))], nks := [nk] }, [.le 1 n.toNat, .le n.toNat 1000000000]) else none
      | none => none
    | none => none
  | _, _, _, _ => none
theorem zc_rep {z : Value} (h : z.oneCell' = true) (n : Nat) : Builtin.zeroCells z.cells n = (List.replicate n z).toArray := by
  rw [cells_one h]
  apply Array.ext'
  simp [Builtin.zeroCells]
  apply List.ext_getElem
  · simp
  · intro i h1 h2
    simp [Nat.mod_one]
theorem run_append_make {w : World} (t tx ty e : TypeId) (i : TypeInfo) (z : Value) (kk : IntKind) (ht : P.underlying t = some (.slice e)) (hk : P.underlying tx = some (.int kk)) (hi : P.info? e = some i) (hz : i.zero = some z) (hs : i.size = 1) (hz1 : z.oneCell' = true) (hby : i.bytes = 1) (n : Nat) (h0 : 0 < n) (hn : n ≤ 1000000000) :
    (Builtin.append_ #[t, tx] ty #[.slice none 0 0, .int .i64 (n : Int)]).run P w =
      .ok (.slice (some ⟨w.heap.size, 0, none⟩) n (grownCap w n 0 e)) (w.drew.alloc (.cells ((List.replicate n z).toArray ++ Builtin.zeroCells z.cells (grownCap w n 0 e - n)) e)) := by
  have hw : IntKind.i64.wrap (n : Int) = n := by rw [IntKind.wrap_i64]; omega
  have h1 : ¬ ((n : Int) < 0) := by omega
  have h2 : ¬ (281474976710656 < (n : Int)) := by omega
  have h3 : ¬ (n = 0) := by omega
  have h4 : ¬ (9223372036854775807 < (n : Int)) := by omega
  have h5 : Builtin.nextslicecap n 0 = n := by unfold Builtin.nextslicecap; rw [if_pos (by omega)]
  have h6 : ¬ (281474976710656 < n) := by omega
  have hr := zc_rep hz1 n
  simp [Builtin.append_, run_underlying ht, run_underlying hk, sizeOf, typeInfo, zeroValue, hi, hz, hs, hby, hw, h1, h2, h3, h4, h5, h6, asInt, asIntOf, Question.forced, newRow, grownCap, Builtin.firstCells, hr]
theorem evAppendMake_ok {ev : Operand → AV} {m : Nat → Option Blk} {o : Oper} {nk : Nat} {t tx : TypeId} {x y : Operand} {r : Res} {obs : List Ob} (ho : o.op = .call { callee := .builtin .append, args := #[x, y], argTypes := #[t, tx] }) (h : evAppendMake P nk t tx (ev x) (ev y) = some (r, obs)) (hb : AllOb P obs) : OpOK0 P G o ev m r := by
  have hx : x ∈ o.op.operands := by rw [ho]; simp [Op.operands, Call.operands]
  have hy : y ∈ o.op.operands := by rw [ho]; simp [Op.operands, Call.operands]
  have exec : ∀ (a : Act) (w w' : World) (v : Value), (Builtin.append_ #[t, tx] o.type #[a.eval x, a.eval y]).run P w = .ok v w' → (execOp a.eval o).run P w = .ok (.value v) w' := fun a w w' v hv => by
    simp [execOp, ho, resolve, invoke, builtin, hv]
  unfold evAppendMake at h
  split at h
  · rename_i e kk n hu hd hxx hyy
    split at h
    · rename_i i hi
      split at h
      · rename_i z hz
        split at h
        · rename_i hs
          obtain ⟨hs1, hs2, hs3⟩ := hs
          cases h
          obtain ⟨b1, b2, _⟩ := hb
          have b1 : 1 ≤ n.toNat := b1
          have b2 : n.toNat ≤ 1000000000 := b2
          refine OpOK0.of_run fun ρ a w g1 g2 g3 => ?_
          have hnk : ρ nk = none := g3 nk (by simp)
          have rx := g1 x hx
          have ry := g1 y hy
          rw [hxx] at rx
          rw [hyy] at ry
          generalize hax : a.eval x = p at rx
          generalize hay : a.eval y = q at ry
          cases rx; cases ry
          have en : n = ((n.toNat : Nat) : Int) := by omega
          have hg := run_append_make (P := P) (w := w) t tx o.type e i z kk hu hd hi hz hs1 hs2 hs3 n.toNat (by omega) b2
          rw [← en, ← hax, ← hay] at hg
          have hge := grownCap_ge w n.toNat 0 e
          generalize grownCap w n.toNat 0 e = nc at hg hge
          have hcells : (List.replicate n.toNat z).toArray ++ Builtin.zeroCells z.cells (nc - n.toNat) = (List.replicate n.toNat z ++ List.replicate (nc - n.toNat) z).toArray := by rw [zc_rep hs2]; simp
          rw [hcells] at hg
          have hnl : (List.replicate n.toNat z ++ List.replicate (nc - n.toNat) z).length = nc := by simp; omega
          refine ⟨_, w.drew.alloc (.cells (List.replicate n.toNat z ++ List.replicate (nc - n.toNat) z).toArray e), ρ.add nk ⟨w.heap.size, 0, nc⟩, .inl (exec a w _ _ hg), Rho.le_add hnk, fun j hj => Rho.add_other _ _ _ _ (by simpa using hj), ?_, fun k' b' hm' => ?_, ⟨rfl, rfl, rfl, by simp, fun b hlt _ => Below.heap_alloc w.drew _ b hlt⟩, fun k' hk' l' hl' hc' => ?_, fun k' hk' k2 hk2 hne => ?_⟩
          · have := Rel.o (ρ := ρ.add nk ⟨w.heap.size, 0, nc⟩) (k := nk) (off := 0) (n := n.toNat) (Rho.add_same _ _ _) rfl (by simp; omega)
            simpa using this
          · simp at hm'; obtain ⟨rfl, rfl⟩ := hm'
            exact ⟨_, Rho.add_same _ _ _, rfl, .inr ⟨by show nc ≠ 0; omega, _, Has.alloc w.drew _ e, hnl⟩⟩
          · simp at hk'; subst hk'; rw [Rho.add_same] at hl'; cases hl'
            exact ⟨by simp, .inl (Nat.le_refl _)⟩
          · simp at hk' hk2; exact absurd (hk'.trans hk2.symm) hne
        · cases h
      · cases h
    · cases h
  · cases h
/-! a struct or an array built of parts that are not all exact -/
theorem foldl_set (vs : List Value) (off k : Nat) (cells : Array Value) (j : Nat) : ((vs.zipIdx k).foldl (fun cs p => cs.setIfInBounds (off + p.2) p.1) cells)[j]? = if off + k ≤ j ∧ j < off + k + vs.length ∧ j < cells.size then vs[j - (off + k)]? else cells[j]? := by
  induction vs generalizing k cells with
  | nil => simp; omega
  | cons v vs ih =>
    rw [List.zipIdx_cons, List.foldl_cons, ih]
    simp only [Array.size_setIfInBounds, Array.getElem?_setIfInBounds, List.length_cons]
    by_cases h1 : off + (k + 1) ≤ j ∧ j < off + (k + 1) + vs.length ∧ j < cells.size
    · rw [if_pos h1, if_pos (by omega)]
      obtain ⟨d, hd⟩ : ∃ d, j - (off + k) = d + 1 := ⟨j - (off + k) - 1, by omega⟩
      rw [hd, List.getElem?_cons_succ]; congr 1; omega
    · rw [if_neg h1]
      by_cases h2 : off + k = j
      · subst h2
        by_cases h3 : off + k < cells.size
        · rw [if_pos rfl, if_pos h3, if_pos (by omega)]; simp
        · rw [if_pos rfl, if_neg h3, if_neg (by omega)]; simp; omega
      · rw [if_neg h2, if_neg (by omega)]
def fillA (place : Nat → Option (Nat × Nat)) (cs : List AV) : List (Nat × List AV) → Option (List AV)
  | [] => some cs
  | (i, ys) :: rest => match place i with
    | none => none
    | some (off, size) => if ys.length = size ∧ off + ys.length ≤ cs.length then fillA place (cs.take off ++ ys ++ cs.drop (off + ys.length)) rest else none
theorem fill_rel {ρ : Rho} (place : Nat → Option (Nat × Nat)) : ∀ (pa : List (Nat × List AV)) (pv : List (Nat × Value)) (cs : List AV) (vs : Array Value) (out : List AV), RelL ρ cs vs.toList → pa.map (·.1) = pv.map (·.1) → (∀ (i : Nat) (ys : Nat × List AV) (v : Nat × Value), pa[i]? = some ys → pv[i]? = some v → RelL ρ ys.2 v.2.cells.toList) → fillA place cs pa = some out → ∃ ws, Instr.fill place vs pv = some ws ∧ RelL ρ out ws.toList
  | [], pv, cs, vs, out, hr, hm, _, h => by
    cases pv with
    | nil => cases h; exact ⟨vs, rfl, hr⟩
    | cons _ _ => simp at hm
  | (i, ys) :: pa, pv, cs, vs, out, hr, hm, hp, h => by
    cases pv with
    | nil => simp at hm
    | cons q pv =>
      obtain ⟨i', v⟩ := q
      simp at hm
      obtain ⟨rfl, hm⟩ := hm
      unfold fillA at h
      unfold Instr.fill
      cases hpl : place i with
      | none => rw [hpl] at h; cases h
      | some os =>
        obtain ⟨off, size⟩ := os
        rw [hpl] at h
        simp only at h ⊢
        split at h
        · rename_i hc
          obtain ⟨hc1, hc2⟩ := hc
          have h0 : RelL ρ ys v.cells.toList := hp 0 _ _ rfl rfl
          have hlv : v.cells.size = ys.length := by rw [h0.1]; simp
          have hlc : vs.size = cs.length := by rw [hr.1]; simp
          rw [if_neg (by simp [hlv, hc1, hlc]; omega)]
          refine fill_rel place pa pv _ _ out ?_ hm (fun j y w h1 h2 => hp (j + 1) y w (by simpa using h1) (by simpa using h2)) h
          have e : ∀ j : Nat, (v.cells.zipIdx.foldl (fun cs (x : Value × Nat) => cs.setIfInBounds (off + x.2) x.1) vs)[j]? = if off ≤ j ∧ j < off + ys.length ∧ j < vs.size then v.cells.toList[j - off]? else vs[j]? := fun j => by
            have := foldl_set v.cells.toList off 0 vs j
            simp only [Nat.add_zero] at this
            rw [← Array.foldl_toList, Array.toList_zipIdx, this]
            simp [hlv]
          refine ⟨?_, fun j x w h1 h2 => ?_⟩
          · have hsz : ∀ (l : List (Value × Nat)) (c : Array Value), (l.foldl (fun cs (x : Value × Nat) => cs.setIfInBounds (off + x.2) x.1) c).size = c.size := fun l => by
              induction l with
              | nil => intro c; rfl
              | cons a l ih => intro c; rw [List.foldl_cons, ih]; simp
            simp only [Array.length_toList]
            rw [← Array.foldl_toList, hsz]
            simp; omega
          · rw [Array.getElem?_toList, e] at h2
            have hjl : j < cs.length := by
              have := (List.getElem?_eq_some_iff.1 h1).1
              simp at this; omega
            by_cases hj : j < off
            · rw [if_neg (by omega)] at h2
              rw [List.append_assoc, List.getElem?_append_left (by simp; omega), List.getElem?_take, if_pos hj] at h1
              exact hr.2 j x w h1 (by simpa using h2)
            · by_cases hj2 : j < off + ys.length
              · rw [if_pos (by omega)] at h2
                rw [List.append_assoc, List.getElem?_append_right (by simp; omega), List.getElem?_append_left (by simp; omega)] at h1
                refine h0.2 (j - off) x w ?_ h2
                rw [← h1]; congr 1; simp; omega
              · rw [if_neg (by omega)] at h2
                rw [List.getElem?_append_right (by simp; omega), List.getElem?_drop] at h1
                refine hr.2 j x w ?_ (by simpa using h2)
                rw [← h1]; congr 1; simp; omega
        · cases h
def partsA (ev : Operand → AV) : List (Nat × Operand) → Option (List (Nat × List AV))
  | [] => some []
  | (i, x) :: l => match (ev x).cellsA, partsA ev l with
    | some ys, some r => some ((i, ys) :: r)
    | _, _ => none
theorem partsA_rel {ρ : Rho} {ev : Operand → AV} {a : Act} : ∀ {l : List (Nat × Operand)} {pa : List (Nat × List AV)}, partsA ev l = some pa → (∀ p ∈ l, Rel ρ (ev p.2) (a.eval p.2)) → pa.map (·.1) = (l.map fun p => (p.1, a.eval p.2)).map (·.1) ∧ ∀ (i : Nat) (ys : Nat × List AV) (v : Nat × Value), pa[i]? = some ys → (l.map fun p => (p.1, a.eval p.2))[i]? = some v → RelL ρ ys.2 v.2.cells.toList
  | [], pa, h, _ => by cases h; exact ⟨rfl, fun i ys v h1 => by simp at h1⟩
  | (i, x) :: l, pa, h, hr => by
    unfold partsA at h
    split at h
    · rename_i ys r hx hl
      cases h
      obtain ⟨e1, e2⟩ := partsA_rel hl fun p hp => hr p (List.mem_cons_of_mem _ hp)
      refine ⟨by simp only [List.map_cons]; rw [e1], fun j y v h1 h2 => ?_⟩
      cases j with
      | zero =>
        simp at h1 h2
        subst h1 h2
        exact rel_cells (hr (i, x) List.mem_cons_self) hx
      | succ j => exact e2 j y v (by simpa using h1) (by simpa using h2)
    · cases h
def evBuild (P : Program) (ev : Operand → AV) (t : TypeId) (parts : Array (Nat × Operand)) : Option (Res × List Ob) :=
  match P.info? t, P.underlying t with
  | some it, some (.struct fields) => match it.zero, fields.toList.mapM (fun f => (P.info? f.type).map fun i => (f.offset, i.size)), partsA ev parts.toList with
    | some z, some places, some pa => match fillA (places.toArray[·]?) (z.cells.toList.map .ex) pa with
      | some out => some ({ val := .agg out }, [])
      | none => none
    | _, _, _ => none
  | _, _ => none
theorem relL_exs (ρ : Rho) (l : List Value) : RelL ρ (l.map .ex) l := by
  refine ⟨by simp, fun i x v h1 h2 => ?_⟩
  rw [List.getElem?_map, h2] at h1
  cases h1
  exact .ex v
theorem evBuild_ok {ev : Operand → AV} {m : Nat → Option Blk} {o : Oper} {t : TypeId} {parts : Array (Nat × Operand)} {r : Res} {obs : List Ob} (ho : o.op = .build t parts) (h : evBuild P ev t parts = some (r, obs)) : OpOK0 P G o ev m r := by
  unfold evBuild at h
  split at h
  · rename_i it fields hi hu
    split at h
    · rename_i z places pa hz hp hpa
      split at h
      · rename_i out hf
        cases h
        refine OpOK0.of_run fun ρ a w g1 _ _ => ?_
        obtain ⟨e1, e2⟩ := partsA_rel (ρ := ρ) (a := a) hpa fun p hp => g1 p.2 (by rw [ho]; simp only [Op.operands]; simpa using ⟨p.1, by simpa using hp⟩)
        obtain ⟨ws, h1, h2⟩ := fill_rel (places.toArray[·]?) pa _ _ z.cells out (relL_exs ρ _) e1 e2 hf
        refine ⟨.agg ws, w, ρ, .inl ?_, StepOf.plain ?_⟩
        · have hb : P.built t (parts.map fun p => (p.1, a.eval p.2)).toList = some ws := by
            unfold Program.built
            simp only [hi, hu, hz, hp]
            rw [Array.toList_map]
            exact h1
          simp [execOp, ho, run_build w t _ ws hb]
        · have := Rel.agg (ρ := ρ) h2.1 h2.2
          simpa using this
      · cases h
    · cases h
  · cases h
def evBuildSliceM (P : Program) (ev : Operand → AV) (nk : Nat) (t : TypeId) (len : Nat) (parts : Array (Nat × Operand)) : Option (Res × List Ob) :=
  match P.underlying t with
  | some (.slice e) => match P.info? e with
    | some i => match i.zero with
      | some z => if len * i.size ≤ 16777216 ∧ 0 < len * i.size then
          match partsA ev parts.toList with
          | some pa => match fillA (fun j => some (j * i.size, i.size)) ((madeCells z.cells (len * i.size)).toList.map .ex) pa with
            | some out => some ({ val := .s nk 0 len len, upd := [(nk, .mix out)], nks := [nk] }, [])
            | none => none
          | none => none
        else none
      | none => none
    | none => none
  | _ => none
theorem evBuildSliceM_ok {ev : Operand → AV} {m : Nat → Option Blk} {o : Oper} {nk : Nat} {t : TypeId} {len : Nat} {parts : Array (Nat × Operand)} {r : Res} {obs : List Ob} (ho : o.op = .buildSlice t len parts) (h : evBuildSliceM P ev nk t len parts = some (r, obs)) : OpOK0 P G o ev m r := by
  unfold evBuildSliceM at h
  split at h
  · rename_i e hu
    split at h
    · rename_i i hi
      split at h
      · rename_i z hz
        split at h
        · rename_i hc
          split at h
          · rename_i pa hpa
            split at h
            · rename_i out hf
              cases h
              refine OpOK0.of_run fun ρ a w g1 _ g3 => ?_
              have hnk : ρ nk = none := g3 nk (by simp)
              obtain ⟨e1, e2⟩ := partsA_rel (ρ := ρ) (a := a) hpa fun p hp => g1 p.2 (by rw [ho]; simp only [Op.operands]; simpa using ⟨p.1, by simpa using hp⟩)
              obtain ⟨ws, h1, h2⟩ := fill_rel (fun j => some (j * i.size, i.size)) pa _ _ (madeCells z.cells (len * i.size)) out (relL_exs ρ _) e1 e2 hf
              have hle : ¬ (16777216 < len * i.size) := by omega
              have hparts : (parts.map fun p => (p.1, a.eval p.2)).toList = parts.toList.map fun p => (p.1, a.eval p.2) := Array.toList_map
              refine ⟨_, _, ρ.add nk ⟨w.heap.size, 0, 1⟩, .inl (?_ : _ = Result.ok (Next.value (.slice (some ⟨w.heap.size, 0, none⟩) len len)) (w.alloc (.cells ws e))), StepOf.fresh _ hnk rfl rfl (.s (off := 0) (Rho.add_same _ _ _)) ?_⟩
              · have hn : (newRow e ws).run P w = .ok ⟨w.heap.size, 0, none⟩ (w.alloc (.cells ws e)) := rfl
                have hsz : (sizeOf e).run P w = .ok i.size w := by simp [sizeOf, typeInfo, hi]
                have hzv : (zeroValue e).run P w = .ok z w := by simp [zeroValue, typeInfo, hi, hz]
                have hbs : (Instr.buildSlice t len (parts.map fun p => (p.1, a.eval p.2))).run P w = .ok (.slice (some ⟨w.heap.size, 0, none⟩) len len) (w.alloc (.cells ws e)) := by
                  unfold madeCells at h1
                  have h0 : ¬ len * i.size = 0 := by omega
                  have h24 : (len * i.size > 2 ^ 24) = False := by simpa using hle
                  simp only [Instr.buildSlice, Sem.run_bind, run_underlying hu, Result.andThen_ok, hsz, h0, h24, if_false, hzv, Sem.run_pure, hparts, h1, hn]
                simp only [execOp, ho, Sem.run_bind, Sem.run_pure]
                have e1 : (parts.map fun x => match x with | (i, x) => (i, a.eval x)) = parts.map fun p => (p.1, a.eval p.2) := rfl
                rw [e1, hbs]
                rfl
              · exact ⟨_, ws.toList, Rho.add_same _ _ _, rfl, by simp, Has.alloc w ws.toList e, h2.mono (Rho.le_add hnk)⟩
            · cases h
          · cases h
        · cases h
      · cases h
    · cases h
  · cases h
def allEx (ev : Operand → AV) (parts : Array (Nat × Operand)) : Bool := (parts.toList.map (·.2)).all fun x => (ev x).isEx
/-! the number cut off towards nought -/
def isTrunc (P : Program) (f : FuncId) : Bool := match P.funcs[f]? with
  | some fn => fn.name == "math.archTrunc" && fn.body.isNone && (Extern.findNext fn).isNone
  | none => false
def truncB (b : Nat) : Nat := FloatKind.f64.encode ((FloatKind.f64.decode b).integral .zero)
def nanN (b : Nat) : Nat := if (FloatKind.f64.decode b).isNaN then 1 else 0
theorem find_trunc {fn : Func} (h : fn.name = "math.archTrunc") : Extern.find fn = some (Extern.MathFloor.toIntegral "math.archTrunc" .zero) := by
  have h1 : Extern.allGenericRows.lookup "math.archTrunc" = none := by kernel_rfl
  have h2 : Extern.allTypedRows.lookup "math.archTrunc" = none := by kernel_rfl
  have h3 : Extern.allRows.lookup "math.archTrunc" = some (Extern.MathFloor.toIntegral "math.archTrunc" .zero) := by kernel_rfl
  unfold Extern.find
  simp only [h, h1, h2, h3]
  rfl
theorem trunc_eq {b : Nat} (h : nanN b ≤ 0) : Extern.MathFloor.toIntegral "math.archTrunc" .zero #[.float .f64 b] = pure (.float .f64 (truncB b)) := by
  have key : ∀ d : Ieee.Datum, d.isNaN = false → (match d with
    | .nan s t =>
      if FloatKind.f64.format.quiet t = t then (pure (.float .f64 b) : Sem Value) else do
      let kept ← choose (.extern "math.Floor,Ceil,Trunc,RoundToEven.signallingNaN kept" 2)
      pure (.float .f64 (if kept == 1 then b else FloatKind.f64.encode (.nan s (FloatKind.f64.format.quiet t))))
    | d => pure (.float .f64 (FloatKind.f64.encode (d.integral .zero)))) = pure (.float .f64 (FloatKind.f64.encode (d.integral .zero))) := fun d hd => by
    cases d with
    | nan s t => cases hd
    | infinity s => rfl
    | number s m e => rfl
  exact key (FloatKind.f64.decode b) (by
    unfold nanN at h
    cases hh : (FloatKind.f64.decode b).isNaN with
    | false => rfl
    | true => rw [hh] at h; simp at h)
theorem run_trunc {b : Nat} (h : nanN b ≤ 0) (w : World) : (Extern.MathFloor.toIntegral "math.archTrunc" .zero #[.float .f64 b]).run P w = .ok (.float .f64 (truncB b)) w := by
  rw [trunc_eq h]; rfl
theorem run_callTrunc {f : FuncId} (hf : isTrunc P f = true) {b : Nat} (h : nanN b ≤ 0) (w : World) : (callFunc f #[.float .f64 b]).run P w = .ok (.value (.float .f64 (truncB b))) w := by
  unfold isTrunc at hf
  split at hf
  · rename_i fn hfn
    simp only [Bool.and_eq_true] at hf
    obtain ⟨⟨h1, h2⟩, h3⟩ := hf
    have h1 : fn.name = "math.archTrunc" := by simpa using h1
    have h4 : ¬ fn.name = "runtime.NumGoroutine" := by rw [h1]; decide
    have h5 : Extern.findNext fn = none := by simpa using h3
    have h6 : fn.body = none := by simpa using h2
    simp [callFunc, hfn, h4, h6, h5, find_trunc h1, run_trunc h]
  · cases hf
def evTrunc (P : Program) (f x : AV) : Option (Res × List Ob) := match f, x with
  | .ex (.func (.func f) ⟨[]⟩ ⟨[]⟩), .ex (.float .f64 b) => match isTrunc P f with
    | true => some ({ val := .ex (.float .f64 (truncB b)) }, [.le (nanN b) 0])
    | false => none
  | _, _ => none
theorem evTrunc_ok {ev : Operand → AV} {m : Nat → Option Blk} {o : Oper} {ts : Array TypeId} {fx x : Operand} {r : Res} {obs : List Ob} (ho : o.op = .call { callee := .value fx, args := #[x], argTypes := ts }) (h : evTrunc P (ev fx) (ev x) = some (r, obs)) (hb : AllOb P obs) : OpOK0 P G o ev m r := by
  have hf : fx ∈ o.op.operands := by rw [ho]; simp [Op.operands, Call.operands]
  have hx : x ∈ o.op.operands := by rw [ho]; simp [Op.operands, Call.operands]
  unfold evTrunc at h
  split at h
  · rename_i f b hff hxx
    split at h
    · rename_i hT
      cases h
      obtain ⟨b1, _⟩ := hb
      have b1 : nanN b ≤ 0 := b1
      refine OpOK0.of_run fun ρ c w g1 _ _ => ⟨_, w, ρ, .inl ?_, StepOf.plain (.ex _)⟩
      have rf := g1 fx hf
      have rx := g1 x hx
      rw [hff] at rf
      rw [hxx] at rx
      generalize haf : c.eval fx = q at rf
      generalize hax : c.eval x = p at rx
      cases rf; cases rx
      have e := run_callTrunc (P := P) hT b1 w
      simp [execOp, ho, resolve, haf, hax, Deferred.ofValue, invoke, e]
    · cases h
  · cases h
def evCallB (P : Program) (ev : Operand → AV) (m : Nat → Option Blk) (nk : Nat) (o : Oper) (c : Call) : Option (Res × List Ob) :=
  match c with
  | ⟨.builtin .len, ⟨[x]⟩, ⟨[t]⟩⟩ => orP P ev o (evLen P t (ev x))
  | ⟨.builtin .copy, ⟨[x, y]⟩, ⟨[dT, _]⟩⟩ => evCopy P ev m dT x y
  | ⟨.builtin .append, ⟨[x, y]⟩, ⟨[t, tx]⟩⟩ => match evAppendMake P nk t tx (ev x) (ev y) with
    | some r => some r
    | none => match evAppend P ev m nk t tx x y with
      | some r => some r
      | none => match evAppendX P ev m nk t tx x y with
        | some r => some r
        | none => evAppendA P ev m nk t tx x y
  | ⟨.value f, ⟨[x]⟩, _⟩ => orP P ev o (evTrunc P (ev f) (ev x))
  | _ => pureP P ev o
def evPick (c a b : AV) : Option (Res × List Ob) := match c with
  | .ex (.bool true) => some ({ val := a }, [])
  | .ex (.bool false) => some ({ val := b }, [])
  | _ => none
theorem evPick_ok {ev : Operand → AV} {m : Nat → Option Blk} {o : Oper} {c a b : Operand} {r : Res} {obs : List Ob} (ho : o.op = .pick c a b) (h : evPick (ev c) (ev a) (ev b) = some (r, obs)) : OpOK0 P G o ev m r := by
  have hc : c ∈ o.op.operands := by rw [ho]; simp [Op.operands]
  have ha : a ∈ o.op.operands := by rw [ho]; simp [Op.operands]
  have hb : b ∈ o.op.operands := by rw [ho]; simp [Op.operands]
  unfold evPick at h
  split at h
  · rename_i e
    cases h
    refine OpOK0.of_run fun ρ x w g1 _ _ => ⟨x.eval a, w, ρ, .inl ?_, StepOf.plain (g1 a ha)⟩
    have rc := g1 c hc
    rw [e] at rc
    simp [execOp, ho, bool_of_rel rc, asBool]
  · rename_i e
    cases h
    refine OpOK0.of_run fun ρ x w g1 _ _ => ⟨x.eval b, w, ρ, .inl ?_, StepOf.plain (g1 b hb)⟩
    have rc := g1 c hc
    rw [e] at rc
    simp [execOp, ho, bool_of_rel rc, asBool]
  · cases h
def evalOp (P : Program) (ev : Operand → AV) (m : Nat → Option Blk) (nk : Nat) (o : Oper) : Option (Res × List Ob) :=
  match o.op with
  | .move x => some ({ val := ev x }, [])
  | .assign x => some ({ val := ev x }, [])
  | .pick c a b => orP P ev o (evPick (ev c) (ev a) (ev b))
  | .alloc t => evAlloc P nk t
  | .box _ x => evBox nk (ev x)
  | .load t x => evLoad P ev m t x
  | .store t x y => evStore P ev m t x y
  | .indexAddr t x y => evIndexAddr P ev t x y
  | .fieldAddr s x f => evFieldAddr P ev s x f
  | .slice t x lo hi mx => orP P ev o (evSlice P ev t x lo hi mx)
  | .makeSlice t x y => evMakeSlice P ev nk t x y
  | .buildSlice t n ps => match evBuildSlice P ev nk t n ps with
    | some r => some r
    | none => evBuildSliceM P ev nk t n ps
  | .build t ps => match allEx ev ps with
    | true => pureP P ev o
    | false => evBuild P ev t ps
  | .extract x i => orP P ev o (evExtract (ev x) i)
  | .nilCheck x => orP P ev o (evNilCheck (ev x))
  | .makeFunc fn first caps => evMakeFunc fn first caps ev
  | .convert s d x => match evBytesStr P m s d (ev x) with
    | some r => some r
    | none => match evConvSame P m s d (ev x) with
      | some r => some r
      | none => match evFloatInt P s d (ev x) with
      | some r => some r
      | none => orP P ev o (evStrBytes P nk s d (ev x))
  | .binOp op t x y _ => match evNilEq P op t (ev x) (ev y) with
    | some r => some r
    | none => match evDiv op (ev x) (ev y) with
      | some r => some r
      | none => match evStructEq P op t (ev x) (ev y) with
        | some r => some r
        | none => match evFloat op (ev x) (ev y) with
          | some r => some r
          | none => orP P ev o (evArrEq P op t (ev x) (ev y))
  | .index t x y => orP P ev o (evIndex P t (ev x) (ev y))
  | .call c => evCallB P ev m nk o c
  | _ => pureP P ev o
theorem pureP_ok {ev : Operand → AV} {m : Nat → Option Blk} {o : Oper} {r : Res} {obs : List Ob} (h : pureP P ev o = some (r, obs)) : OpOK0 P G o ev m r := by
  unfold pureP at h
  split at h
  · rename_i r' h'; cases h; exact evPure_ok h'
  · cases h
theorem orP_ok {ev : Operand → AV} {m : Nat → Option Blk} {o : Oper} {r : Res} {obs : List Ob} {x : Option (Res × List Ob)} (hx : x = some (r, obs) → OpOK0 P G o ev m r) (h : orP P ev o x = some (r, obs)) : OpOK0 P G o ev m r := by
  unfold orP at h
  split at h
  · exact hx h
  · exact pureP_ok h
theorem evalOp_ok {ev : Operand → AV} {m : Nat → Option Blk} {nk : Nat} {o : Oper} {r : Res} {obs : List Ob} (h : evalOp P ev m nk o = some (r, obs)) (hb : AllOb P obs) : OpOK0 P G o ev m r := by
  unfold evalOp at h
  split at h <;> rename_i ho
  · cases h; exact evMove_ok (.inl ho)
  · cases h; exact evMove_ok (.inr ho)
  · exact orP_ok (fun h => evPick_ok ho h) h
  · exact evAlloc_ok ho h
  · exact evBox_ok ho h
  · exact evLoad_ok ho h hb
  · exact evStore_ok ho h hb
  · exact evIndexAddr_ok ho h hb
  · exact evFieldAddr_ok ho h
  · exact orP_ok (fun h => evSlice_ok ho h hb) h
  · exact evMakeSlice_ok ho h hb
  · split at h
    · rename_i r' h'; cases h; exact evBuildSlice_ok ho h'
    · exact evBuildSliceM_ok ho h
  · split at h
    · exact pureP_ok h
    · exact evBuild_ok ho h
  · exact orP_ok (fun h => evExtract_ok ho h) h
  · exact orP_ok (fun h => evNilCheck_ok ho h) h
  · exact evMakeFunc_ok ho h
  · split at h
    · rename_i r' h'; cases h; exact evBytesStr_ok ho h' hb
    · split at h
      · rename_i r' h'; cases h; exact evConvSame_ok ho h' hb
      · split at h
        · rename_i r' h'; cases h; exact evFloatInt_ok ho h' hb
        · exact orP_ok (fun h => evStrBytes_ok ho h) h
  · split at h
    · rename_i r' h'; cases h; exact evNilEq_ok ho h'
    · split at h
      · rename_i r' h'; cases h; exact evDiv_ok ho h' hb
      · split at h
        · rename_i r' h'; cases h; exact evStructEq_ok ho h'
        · split at h
          · rename_i r' h'; cases h; exact evFloat_ok ho h' hb
          · exact orP_ok (fun h => evArrEq_ok ho h) h
  · exact orP_ok (fun h => evIndex_ok ho h hb) h
  · unfold evCallB at h
    split at h
    · exact orP_ok (fun h => evLen_ok ho h) h
    · exact evCopy_ok ho h hb
    · split at h
      · rename_i r' h'; cases h; exact evAppendMake_ok ho h' hb
      · split at h
        · rename_i r' hr'
          cases h
          exact evAppend_ok ho hr' hb
        · split at h
          · rename_i r' hr'
            cases h
            exact evAppendX_ok ho hr' hb
          · exact evAppendA_ok ho h hb
    · exact orP_ok (fun h => evTrunc_ok ho h hb) h
    · exact pureP_ok h
  · exact pureP_ok h
end
end Go.Proofs.YtdfbcdgneboilaaDoor.Ab
