/- Own: the contracts of layers 2 and 3, told of the abstract heap (no statement is proved here). -/
import Derived.Test.YtfdkdbbigpphcaaDoorO1
import Derived.Test.YtfdkdbbigpphcaaDoorOT2
namespace Go.Proofs.YtfdkdbbigpphcaaDoor.Ab
open Go.Proofs Go.RowKit
set_option linter.unusedSimpArgs false
set_option linter.unusedVariables false
def nI (s : Nat → Int) : Nat → Nat := fun i => (s i).toNat
def cI (f : Nat → Nat) : Nat → Int := fun i => ((f i : Nat) : Int)
def B8 (s : Nat → Int) : Prop := ∀ i, R8 (s i)
theorem byt_nI {s : Nat → Int} (h : B8 s) : Byt (nI s) := fun i => by have := h i; unfold R8 at this; unfold nI; omega
theorem b8_cI {f : Nat → Nat} (h : Byt f) : B8 (cI f) := fun i => by have := h i; unfold R8 cI; omega
theorem bc_ar8 (n : Nat) (f : Nat → Nat) : bc n f = ar8 n (cI f) := rfl
theorem ar8_nI (n : Nat) (s : Nat → Int) (h : B8 s) : ar8 n s = bc n (nI s) := ar8_congr fun i _ => by have := h i; unfold R8 at this; unfold nI; omega
theorem blkV_ar8 (s : Nat → Int) (h : B8 s) : blkV (nI s) = .agg (ar8 16 s).toArray := by unfold blkV; rw [ar8_nI 16 s h]
theorem RelL.uncons {ρ : Rho} {x : AV} {l : List AV} {vs : List Value} (h : RelL ρ (x :: l) vs) : ∃ v us, vs = v :: us ∧ Rel ρ x v ∧ RelL ρ l us := by
  cases vs with
  | nil => have := h.1; simp at this
  | cons v us => exact ⟨v, us, rfl, h.2 0 x v rfl rfl, by simpa using h.1, fun i y u h1 h2 => h.2 (i + 1) y u (by simpa using h1) (by simpa using h2)⟩
theorem exAll_exs : ∀ (l : List Value), exAll (l.map .ex) = some l
  | [] => rfl
  | v :: l => by simp [exAll, exAll_exs l]
theorem relL_args {ρ : Rho} {l vs : List Value} (h : RelL ρ (l.map .ex) vs) : vs = l := exAll_rel (exAll_exs l) h
theorem rel_p0 {ρ : Rho} {k : Nat} {v : Value} {l : Loc} (h : Rel ρ (.p k 0) v) (hl : ρ k = some l) (hd : l.d = 0) : v = .pointer (some ⟨l.b, 0, none⟩) := by
  cases h with
  | p e => rw [hl] at e; cases e; rw [hd]
theorem own_at {ρ : Rho} {w : World} {k : Nat} {cs : List Value} (h : BRel ρ w k (.own cs)) : ∃ l, ρ k = some l ∧ l.d = 0 ∧ l.b < w.heap.size ∧ ∀ j v, cs[j]? = some v → w.cell? ⟨l.b, j, none⟩ = some v := by
  obtain ⟨l, h1, h2, h3, h4⟩ := h
  exact ⟨l, h1, h2, h4.lt, fun j v hj => by rw [h4.cell]; exact hj⟩
theorem stepBelow {ρ : Rho} {w w' : World} {v : Value} (hb : Below w.heap.size w w') : StepOf ρ w { val := .ex v } v ρ w' :=
  ⟨Rho.le_refl ρ, fun _ _ => rfl, .ex v, fun k b hm => (by cases hm), ⟨hb.os, hb.tape, hb.output, hb.size, fun b hb' _ => hb.block b hb'⟩, fun k hk => (by cases hk), fun k hk => (by cases hk)⟩
theorem stepNew {ρ : Rho} {w w' : World} {r : Res} {k : Nat} {b : Blk} {v : Value} (hk : ρ k = none) (hn : r.nks = [k]) (hu : r.upd = [(k, b)]) (hb : Below w.heap.size w w') (hlt : w.heap.size < w'.heap.size)
    (hv : Rel (ρ.add k ⟨w.heap.size, 0, 1⟩) r.val v) (hB : BRel (ρ.add k ⟨w.heap.size, 0, 1⟩) w' k b) : StepOf ρ w r v (ρ.add k ⟨w.heap.size, 0, 1⟩) w' := by
  refine ⟨Rho.le_add hk, fun j hj => Rho.add_other _ _ _ _ (by rw [hn] at hj; simpa using hj), hv, fun k' b' h => ?_, ⟨hb.os, hb.tape, hb.output, hb.size, fun b hb' _ => hb.block b hb'⟩, fun k' h' l hl _ => ?_, fun k' h' k2 h2 hne => ?_⟩
  · rw [hu] at h; simp at h; obtain ⟨rfl, rfl⟩ := h; exact hB
  · rw [hn] at h'; simp at h'; subst h'
    rw [Rho.add_same] at hl; cases hl
    exact ⟨hlt, .inl (Nat.le_refl _)⟩
  · rw [hn] at h' h2; simp at h' h2; exact absurd (h'.trans h2.symm) hne
/-- The tables, as cells. -/
def tabT : List Value := tl0 fin zer 256
theorem isTab_of {w : World} {b : Nat} {tb : List Value} (ht : tb = tabT) (hlt : b < w.heap.size) (hc : ∀ j v, tb[j]? = some v → w.cell? ⟨b, j, none⟩ = some v) : IsTab w b :=
  ⟨hlt, fun j hj => hc j _ (by rw [ht]; exact tl0_get fin zer j hj)⟩
/-- A call that reads tables alone. -/
theorem CallOK.ofTab {f : FuncId} {tb : List Value} (ht : tb = tabT) {args : List Value} {v : Value}
    (h : ∀ g w, IsTab w g → Calls Tryd.prog f (Value.pointer (some ⟨g, 0, none⟩) :: args).toArray w fun e w' => e = .returned v ∧ Below w.heap.size w w') :
    CallOK Tryd.prog (fun _ => none) f (.p 0 0 :: args.map .ex) [(0, .own tb)] { val := .ex v } := by
  intro ρ w vs hr hM _ _ _
  obtain ⟨l, h1, h2, h3, h4⟩ := own_at (hM 0 (.own tb) (by simp))
  obtain ⟨p, us, rfl, hp, hu⟩ := hr.uncons
  rw [rel_p0 hp h1 h2, relL_args hu]
  refine (h l.b w (isTab_of ht h3 h4)).mono ?_
  rintro e w' ⟨rfl, hb⟩
  exact ⟨v, ρ, rfl, stepBelow hb⟩
/-! ## layer 3 -/
def rndI (s k : Nat → Int) : Nat → Int := cI (rnd (nI s) (nI k))
def lstI (s k : Nat → Int) : Nat → Int := cI (lst (nI s) (nI k))
def unrI (s k : Nat → Int) : Nat → Int := cI (unr (nI s) (nI k))
def unlI (s k : Nat → Int) : Nat → Int := cI (unl (nI s) (nI k))
theorem b8_rnd {s k : Nat → Int} (hk : B8 k) : B8 (rndI s k) := b8_cI (rnd_byt (byt_nI hk))
theorem b8_lst {s k : Nat → Int} (hs : B8 s) (hk : B8 k) : B8 (lstI s k) := b8_cI (lst_byt (byt_nI hs) (byt_nI hk))
theorem round_ok {tb : List Value} (ht : tb = tabT) (s k : Nat → Int) (hs : B8 s) (hk : B8 k) : CallOK Tryd.prog (fun _ => none) 47 [.p 0 0, .ex (.agg (ar8 16 s).toArray), .ex (.agg (ar8 16 k).toArray)] [(0, .own tb)] { val := .ex (.agg (ar8 16 (rndI s k)).toArray) } :=
  CallOK.ofTab (args := [.agg (ar8 16 s).toArray, .agg (ar8 16 k).toArray]) ht fun g w hT => by
    rw [← blkV_ar8 s hs, ← blkV_ar8 k hk]; exact round_any g (nI s) (nI k) (byt_nI hs) (byt_nI hk) w hT
/-- Rounds by n keys, one behind the other. -/
def rndsI (s K : Nat → Int) (n : Nat) : Nat → Int := cI (rnds (nI s) (fun i j => nI K (16 * i + j)) n)
theorem b8_rnds {s K : Nat → Int} (hs : B8 s) (hK : B8 K) (n : Nat) : B8 (rndsI s K n) := b8_cI (rnds_byt (byt_nI hs) (fun i j => byt_nI hK _) n)
theorem ar8_part (n : Nat) (K : Nat → Int) (a j : Nat) (h : a + j < n) : (ar8 n K)[a + j]? = some (.int .u8 (K (a + j))) := getElem_ar8 n K _ h
theorem rounds_ok {tb : List Value} (ht : tb = tabT) (s K : Nat → Int) (hs : B8 s) (hK : B8 K) (n : Nat) (hn : n ≤ 100) : CallOK Tryd.prog (fun _ => none) 25 [.p 0 0, .ex (.agg (ar8 16 s).toArray), .sv 1 0 n] [(0, .own tb), (1, .view (ar8 (16 * n) K))] { val := .ex (.agg (ar8 16 (rndsI s K n)).toArray) } := by
  intro ρ w vs hr hM _ _ _
  obtain ⟨l, h1, h2, h3, h4⟩ := own_at (hM 0 (.own tb) (by simp))
  obtain ⟨p, us, rfl, hp, hu⟩ := hr.uncons
  obtain ⟨q, us, rfl, hq, hu⟩ := hu.uncons
  obtain ⟨x, us, rfl, hx, hu⟩ := hu.uncons
  have e2 : q = .agg (ar8 16 s).toArray := by cases hq; rfl
  have e3 : us = [] := by have := hu.1; simpa using this.symm
  rw [rel_p0 hp h1 h2, e2, e3]
  have hT := isTab_of ht h3 h4
  have hv := hM 1 (.view (ar8 (16 * n) K)) (by simp)
  have hIs : IsK w x n (fun i j => nI K (16 * i + j)) := by
    refine ⟨fun i j => byt_nI hK _, ?_⟩
    obtain ⟨l1, k1, k2⟩ := hv
    cases hx with
    | sv e hc =>
      rw [k1] at e; cases e
      refine ⟨_, _, rfl, ?_⟩
      rcases k2 with ⟨_, k3⟩ | ⟨_, _, k3⟩
      · left
        have := congrArg List.length k3
        rw [length_ar8] at this; simp at this; omega
      · right
        refine ⟨l1.b, l1.d + 0, rfl, fun i hi j v hj => ?_⟩
        have hj16 : j < 16 := by have := (List.getElem?_eq_some_iff.1 hj).1; rwa [bc_len] at this
        rw [bc_get 16 _ j hj16] at hj
        cases hj
        have := k3 (16 * i + j) _ (getElem_ar8 (16 * n) K _ (by omega))
        rw [show l1.d + 0 + i * 16 + j = l1.d + (16 * i + j) by omega, this]
        have h8 := hK (16 * i + j)
        unfold R8 at h8
        unfold nI
        rw [Int.toNat_of_nonneg h8.1]
    | svn => exact ⟨_, _, rfl, .inl rfl⟩
  rw [← blkV_ar8 s hs]
  refine (rounds_any l.b n x (nI s) (fun i j => nI K (16 * i + j)) (byt_nI hs) hn w hT hIs).mono ?_
  rintro e w' ⟨rfl, hb⟩
  exact ⟨_, ρ, rfl, stepBelow hb⟩
theorem below_eq {w w' : World} (h : w' = w) : Below w.heap.size w w' := by rw [h]; exact Below.refl _ _
def bxC : List Value := tabV (ntab 255)
theorem make_ok {bx : List Value} (hx : bx = bxC) : CallOK Tryd.prog (fun _ => none) 30 [] [] { val := .p 0 0, upd := [(0, .own bx)], nks := [0] } := by
  intro ρ w vs hr _ hN _ _
  have hv : vs = [] := by have := hr.1; simpa using this.symm
  subst hv
  refine (make_any w).mono ?_
  rintro e w' ⟨rfl, hk, hb⟩
  have hlt : w.heap.size < w'.heap.size := (Array.getElem?_eq_some_iff.1 hk).1
  exact ⟨_, ρ.add 0 ⟨w.heap.size, 0, 1⟩, rfl, stepNew (hN 0 (by simp)) rfl rfl hb hlt (.p (Rho.add_same _ _ _)) ⟨_, Rho.add_same _ _ _, rfl, by simp, _, _, by rw [hx]; exact hk, .inl rfl⟩⟩
def mixL : List Int := [2, 3, 1, 1, 1, 2, 3, 1, 1, 1, 2, 3, 3, 1, 1, 2]
def unmL : List Int := [14, 11, 13, 9, 9, 14, 11, 13, 13, 9, 14, 11, 11, 13, 9, 14]
theorem mixL_at : ∀ i, i < 4 → ∀ r, r < 4 → mixL[i * 4 + r]? = some ((mixM i r : Nat) : Int) := by decide
theorem unmL_at : ∀ i, i < 4 → ∀ r, r < 4 → unmL[i * 4 + r]? = some ((unM i r : Nat) : Int) := by decide
theorem view_at {ρ : Rho} {w : World} {k g : Nat} {cs : List Value} (h : BRel ρ w k (.view cs)) (hne : cs ≠ []) (hg : ∃ l, ρ k = some l ∧ l.b = g ∧ l.d = 0) {i : Nat} {v : Value} (hi : cs[i]? = some v) : w.cell? ⟨g, i, none⟩ = some v := by
  obtain ⟨l, g1, g2⟩ := h
  obtain ⟨l', k1, k2, k3⟩ := hg
  rw [g1] at k1; cases k1
  rcases g2 with ⟨_, g2⟩ | ⟨_, _, g2⟩
  · exact absurd g2 hne
  · have := g2 i v hi
    rwa [k2, k3, Nat.zero_add] at this
theorem new_ok {mx um : List Value} (hm : mx = mixL.map (Value.int .u8)) (hu : um = unmL.map (Value.int .u8)) {bx : List Value} (hx : bx = bxC) {tb : List Value} (ht : tb = tabT) : CallOK Tryd.prog (fun g => [(1, 1), (2, 2)].lookup g) 29 [.p 0 0] [(0, .own bx), (1, .view mx), (2, .view um)] { val := .p 3 0, upd := [(3, .own tb)], nks := [3] } := by
  intro ρ w vs hr hM hN _ hG
  obtain ⟨l, h1, h2, h3, h4⟩ := own_at (hM 0 (.own bx) (by simp))
  obtain ⟨p, us, rfl, hp, hq⟩ := hr.uncons
  have e3 : us = [] := by have := hq.1; simpa using this.symm
  rw [rel_p0 hp h1 h2, e3]
  have hl : Laid w := fun i r hi hr =>
    ⟨view_at (hM 1 (.view mx) (by simp)) (by rw [hm]; decide) (hG 1 1 rfl) (by rw [hm, List.getElem?_map, mixL_at i hi r hr]; rfl), view_at (hM 2 (.view um) (by simp)) (by rw [hu]; decide) (hG 2 2 rfl) (by rw [hu, List.getElem?_map, unmL_at i hi r hr]; rfl)⟩
  refine (new_any l.b w ⟨h3, fun j v hj => h4 j v (by rw [hx]; exact hj)⟩ hl).mono ?_
  rintro e w' ⟨rfl, hk, hb⟩
  have hlt : w.heap.size < w'.heap.size := (Array.getElem?_eq_some_iff.1 hk).1
  exact ⟨_, ρ.add 3 ⟨w.heap.size, 0, 1⟩, rfl, stepNew (hN 3 (by simp)) rfl rfl hb hlt (.p (Rho.add_same _ _ _)) ⟨_, Rho.add_same _ _ _, rfl, by simp, _, _, by rw [ht]; exact hk, .inl rfl⟩⟩
end Go.Proofs.YtfdkdbbigpphcaaDoor.Ab
