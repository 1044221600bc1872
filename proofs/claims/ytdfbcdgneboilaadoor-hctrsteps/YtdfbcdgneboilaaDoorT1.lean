/- Own: the contracts of layers 2 to 4, told of the abstract heap (no statement is proved here). -/
import Derived.Test.YtdfbcdgneboilaaDoorO1
import Derived.Test.YtdfbcdgneboilaaDoorOA3
import Derived.Test.YtdfbcdgneboilaaDoorOA1
namespace Go.Proofs.YtdfbcdgneboilaaDoor.Ab
open Go.Proofs Go.RowKit
set_option linter.unusedSimpArgs false
set_option linter.unusedVariables false
def nI (s : Nat → Int) : Nat → Nat := fun i => (s i).toNat
def cI (f : Nat → Nat) : Nat → Int := fun i => ((f i : Nat) : Int)
def B8 (s : Nat → Int) : Prop := ∀ i, R8 (s i)
theorem byt_nI {s : Nat → Int} (h : B8 s) : Byt (nI s) := fun i => by have := h i; unfold R8 at this; unfold nI; omega
theorem b8_cI {f : Nat → Nat} (h : Byt f) : B8 (cI f) := fun i => by have := h i; unfold R8 cI; omega
theorem bc_ar8 (n : Nat) (f : Nat → Nat) : bc n f = ar8 n (cI f) := rfl
theorem ar8_nI (n : Nat) (s : Nat → Int) (h : B8 s) : ar8 n s = bc n (nI s) := ar8_congr fun i _ => by have := h i; unfold R8 at this; unfold nI; omega
theorem blkV_ar8 (s : Nat → Int) (h : B8 s) : blkV (nI s) = .agg (ar8 16 s).toArray := by unfold blkV; rw [ar8_nI 16 s h]
theorem RelL.uncons {ρ : Rho} {x : AV} {l : List AV} {vs : List Value} (h : RelL ρ (x :: l) vs) : ∃ v us, vs = v :: us ∧ Rel ρ x v ∧ RelL ρ l us := by
  cases vs with
  | nil => have := h.1; simp at this
  | cons v us => exact ⟨v, us, rfl, h.2 0 x v rfl rfl, by simpa using h.1, fun i y u h1 h2 => h.2 (i + 1) y u (by simpa using h1) (by simpa using h2)⟩
theorem exAll_exs : ∀ (l : List Value), exAll (l.map .ex) = some l
  | [] => rfl
  | v :: l => by simp [exAll, exAll_exs l]
theorem relL_args {ρ : Rho} {l vs : List Value} (h : RelL ρ (l.map .ex) vs) : vs = l := exAll_rel (exAll_exs l) h
theorem rel_p0 {ρ : Rho} {k : Nat} {v : Value} {l : Loc} (h : Rel ρ (.p k 0) v) (hl : ρ k = some l) (hd : l.d = 0) : v = .pointer (some ⟨l.b, 0, none⟩) := by
  cases h with
  | p e => rw [hl] at e; cases e; rw [hd]
theorem own_at {ρ : Rho} {w : World} {k : Nat} {cs : List Value} (h : BRel ρ w k (.own cs)) : ∃ l, ρ k = some l ∧ l.d = 0 ∧ l.b < w.heap.size ∧ ∀ j v, cs[j]? = some v → w.cell? ⟨l.b, j, none⟩ = some v := by
  obtain ⟨l, h1, h2, h3, h4⟩ := h
  exact ⟨l, h1, h2, h4.lt, fun j v hj => by rw [h4.cell]; exact hj⟩
theorem stepBelow {ρ : Rho} {w w' : World} {v : Value} (hb : Below w.heap.size w w') : StepOf ρ w { val := .ex v } v ρ w' :=
  ⟨Rho.le_refl ρ, fun _ _ => rfl, .ex v, fun k b hm => (by cases hm), ⟨hb.os, hb.tape, hb.output, hb.size, fun b hb' _ => hb.block b hb'⟩, fun k hk => (by cases hk), fun k hk => (by cases hk)⟩
theorem stepNew {ρ : Rho} {w w' : World} {r : Res} {k : Nat} {b : Blk} {v : Value} (hk : ρ k = none) (hn : r.nks = [k]) (hu : r.upd = [(k, b)]) (hb : Below w.heap.size w w') (hlt : w.heap.size < w'.heap.size)
    (hv : Rel (ρ.add k ⟨w.heap.size, 0, 1⟩) r.val v) (hB : BRel (ρ.add k ⟨w.heap.size, 0, 1⟩) w' k b) : StepOf ρ w r v (ρ.add k ⟨w.heap.size, 0, 1⟩) w' := by
  refine ⟨Rho.le_add hk, fun j hj => Rho.add_other _ _ _ _ (by rw [hn] at hj; simpa using hj), hv, fun k' b' h => ?_, ⟨hb.os, hb.tape, hb.output, hb.size, fun b hb' _ => hb.block b hb'⟩, fun k' h' l hl _ => ?_, fun k' h' k2 h2 hne => ?_⟩
  · rw [hu] at h; simp at h; obtain ⟨rfl, rfl⟩ := h; exact hB
  · rw [hn] at h'; simp at h'; subst h'
    rw [Rho.add_same] at hl; cases hl
    exact ⟨hlt, .inl (Nat.le_refl _)⟩
  · rw [hn] at h' h2; simp at h' h2; exact absurd (h'.trans h2.symm) hne
/-- The tables, as cells. -/
def tabT : List Value := tl0 fin zer 256
theorem isTab_of {w : World} {b : Nat} {tb : List Value} (ht : tb = tabT) (hlt : b < w.heap.size) (hc : ∀ j v, tb[j]? = some v → w.cell? ⟨b, j, none⟩ = some v) : IsTab w b :=
  ⟨hlt, fun j hj => hc j _ (by rw [ht]; exact tl0_get fin zer j hj)⟩
/-- A call that reads tables alone. -/
theorem CallOK.ofTab {f : FuncId} {tb : List Value} (ht : tb = tabT) {args : List Value} {v : Value}
    (h : ∀ g w, IsTab w g → Calls Tryd.prog f (Value.pointer (some ⟨g, 0, none⟩) :: args).toArray w fun e w' => e = .returned v ∧ Below w.heap.size w w') :
    CallOK Tryd.prog (fun _ => none) f (.p 0 0 :: args.map .ex) [(0, .own tb)] { val := .ex v } := by
  intro ρ w vs hr hM _ _ _ _
  obtain ⟨l, h1, h2, h3, h4⟩ := own_at (hM 0 (.own tb) (by simp))
  obtain ⟨p, us, rfl, hp, hu⟩ := hr.uncons
  rw [rel_p0 hp h1 h2, relL_args hu]
  refine (h l.b w (isTab_of ht h3 h4)).mono ?_
  rintro e w' ⟨rfl, hb⟩
  exact ⟨v, ρ, rfl, stepBelow hb⟩
/-- The cells of a Key. -/
def keyA (r : Nat) (F : Nat → Int) : List AV := .p 1 0 :: .ex (.int .i64 (r : Int)) :: (ar8 240 F).map .ex
theorem isKey_of {ρ : Rho} {w : World} {r : Nat} {F : Nat → Int} (hF : B8 F) {l1 : Loc} (hl1 : ρ 1 = some l1) (hd1 : l1.d = 0) (h : BRel ρ w 0 (.mix (keyA r F))) : ∃ l, ρ 0 = some l ∧ l.d = 0 ∧ IsKey w l.b l1.b r (nI F) := by
  obtain ⟨l, vs, g1, g2, g3, g4, g5⟩ := h
  obtain ⟨p, us, rfl, hp, hu⟩ := g5.uncons
  obtain ⟨q, us, rfl, hq, hu⟩ := hu.uncons
  have e1 := rel_p0 hp hl1 hd1
  have e2 : q = .int .i64 (r : Int) := by cases hq; rfl
  have e3 := relL_args hu
  refine ⟨l, g1, g2, g4.lt, fun j v hj => ?_⟩
  rw [g4.cell, e1, e2, e3, ar8_nI 240 F hF]
  exact hj
/-- A call that reads a Key and its tables. -/
theorem CallOK.ofKey {f : FuncId} {tb : List Value} (ht : tb = tabT) {r : Nat} {F : Nat → Int} (hF : B8 F) {args : List Value} {v : Value}
    (h : ∀ k g w, IsKey w k g r (nI F) → IsTab w g → Calls Tryd.prog f (Value.pointer (some ⟨k, 0, none⟩) :: args).toArray w fun e w' => e = .returned v ∧ Below w.heap.size w w') :
    CallOK Tryd.prog (fun _ => none) f (.p 0 0 :: args.map .ex) [(0, .mix (keyA r F)), (1, .own tb)] { val := .ex v } := by
  intro ρ w vs hr hM _ _ _ _
  obtain ⟨l1, h1, h2, h3, h4⟩ := own_at (hM 1 (.own tb) (by simp))
  obtain ⟨l, g1, g2, g3⟩ := isKey_of hF h1 h2 (hM 0 (.mix (keyA r F)) (by simp))
  obtain ⟨p, us, rfl, hp, hu⟩ := hr.uncons
  rw [rel_p0 hp g1 g2, relL_args hu]
  refine (h l.b l1.b w g3 (isTab_of ht h3 h4)).mono ?_
  rintro e w' ⟨rfl, hb⟩
  exact ⟨v, ρ, rfl, stepBelow hb⟩
/-! ## layer 3 -/
def rndI (s k : Nat → Int) : Nat → Int := cI (rnd (nI s) (nI k))
def lstI (s k : Nat → Int) : Nat → Int := cI (lst (nI s) (nI k))
def unrI (s k : Nat → Int) : Nat → Int := cI (unr (nI s) (nI k))
def unlI (s k : Nat → Int) : Nat → Int := cI (unl (nI s) (nI k))
theorem b8_rnd {s k : Nat → Int} (hk : B8 k) : B8 (rndI s k) := b8_cI (rnd_byt (byt_nI hk))
theorem b8_lst {s k : Nat → Int} (hs : B8 s) (hk : B8 k) : B8 (lstI s k) := b8_cI (lst_byt (byt_nI hs) (byt_nI hk))
theorem round_ok {tb : List Value} (ht : tb = tabT) (s k : Nat → Int) (hs : B8 s) (hk : B8 k) : CallOK Tryd.prog (fun _ => none) 50 [.p 0 0, .ex (.agg (ar8 16 s).toArray), .ex (.agg (ar8 16 k).toArray)] [(0, .own tb)] { val := .ex (.agg (ar8 16 (rndI s k)).toArray) } :=
  CallOK.ofTab (args := [.agg (ar8 16 s).toArray, .agg (ar8 16 k).toArray]) ht fun g w hT => by
    rw [← blkV_ar8 s hs, ← blkV_ar8 k hk]; exact round_any g (nI s) (nI k) (byt_nI hs) (byt_nI hk) w hT
theorem last_ok {tb : List Value} (ht : tb = tabT) (s k : Nat → Int) (hs : B8 s) (hk : B8 k) : CallOK Tryd.prog (fun _ => none) 33 [.p 0 0, .ex (.agg (ar8 16 s).toArray), .ex (.agg (ar8 16 k).toArray)] [(0, .own tb)] { val := .ex (.agg (ar8 16 (lstI s k)).toArray) } :=
  CallOK.ofTab (args := [.agg (ar8 16 s).toArray, .agg (ar8 16 k).toArray]) ht fun g w hT => by
    rw [← blkV_ar8 s hs, ← blkV_ar8 k hk]; exact last_any g (nI s) (nI k) (byt_nI hs) (byt_nI hk) w hT
/-- Rounds by n keys, one behind the other. -/
def rndsI (s K : Nat → Int) (n : Nat) : Nat → Int := cI (rnds (nI s) (fun i j => nI K (16 * i + j)) n)
theorem b8_rnds {s K : Nat → Int} (hs : B8 s) (hK : B8 K) (n : Nat) : B8 (rndsI s K n) := b8_cI (rnds_byt (byt_nI hs) (fun i j => byt_nI hK _) n)
theorem ar8_part (n : Nat) (K : Nat → Int) (a j : Nat) (h : a + j < n) : (ar8 n K)[a + j]? = some (.int .u8 (K (a + j))) := getElem_ar8 n K _ h
theorem rounds_ok {tb : List Value} (ht : tb = tabT) (s K : Nat → Int) (hs : B8 s) (hK : B8 K) (n : Nat) (hn : n ≤ 100) : CallOK Tryd.prog (fun _ => none) 32 [.p 0 0, .ex (.agg (ar8 16 s).toArray), .sv 1 0 n] [(0, .own tb), (1, .view (ar8 (16 * n) K))] { val := .ex (.agg (ar8 16 (rndsI s K n)).toArray) } := by
  intro ρ w vs hr hM _ _ _ _
  obtain ⟨l, h1, h2, h3, h4⟩ := own_at (hM 0 (.own tb) (by simp))
  obtain ⟨p, us, rfl, hp, hu⟩ := hr.uncons
  obtain ⟨q, us, rfl, hq, hu⟩ := hu.uncons
  obtain ⟨x, us, rfl, hx, hu⟩ := hu.uncons
  have e2 : q = .agg (ar8 16 s).toArray := by cases hq; rfl
  have e3 : us = [] := by have := hu.1; simpa using this.symm
  rw [rel_p0 hp h1 h2, e2, e3]
  have hT := isTab_of ht h3 h4
  have hv := hM 1 (.view (ar8 (16 * n) K)) (by simp)
  have hIs : IsK w x n (fun i j => nI K (16 * i + j)) := by
    refine ⟨fun i j => byt_nI hK _, ?_⟩
    obtain ⟨l1, k1, k2⟩ := hv
    cases hx with
    | sv e hc =>
      rw [k1] at e; cases e
      refine ⟨_, _, rfl, ?_⟩
      rcases k2 with ⟨_, k3⟩ | ⟨_, _, k3⟩
      · left
        have := congrArg List.length k3
        rw [length_ar8] at this; simp at this; omega
      · right
        refine ⟨l1.b, l1.d + 0, rfl, fun i hi j v hj => ?_⟩
        have hj16 : j < 16 := by have := (List.getElem?_eq_some_iff.1 hj).1; rwa [bc_len] at this
        rw [bc_get 16 _ j hj16] at hj
        cases hj
        have := k3 (16 * i + j) _ (getElem_ar8 (16 * n) K _ (by omega))
        rw [show l1.d + 0 + i * 16 + j = l1.d + (16 * i + j) by omega, this]
        have h8 := hK (16 * i + j)
        unfold R8 at h8
        unfold nI
        rw [Int.toNat_of_nonneg h8.1]
    | svn => exact ⟨_, _, rfl, .inl rfl⟩
  rw [← blkV_ar8 s hs]
  refine (rounds_any l.b n x (nI s) (fun i j => nI K (16 * i + j)) (byt_nI hs) hn w hT hIs).mono ?_
  rintro e w' ⟨rfl, hb⟩
  exact ⟨_, ρ, rfl, stepBelow hb⟩
/-! ## layer 4 -/
def encI (F : Nat → Int) (r : Nat) (s : Nat → Int) : Nat → Int := cI (encB (nI F) r (nI s))
def decI (F : Nat → Int) (r : Nat) (s : Nat → Int) : Nat → Int := cI (decB (nI F) r (nI s))
theorem b8_enc {F s : Nat → Int} (hF : B8 F) (hs : B8 s) (r : Nat) : B8 (encI F r s) := b8_cI (encB_byt (byt_nI hF) (byt_nI hs) r)
theorem b8_dec {F s : Nat → Int} (hF : B8 F) (hs : B8 s) (r : Nat) : B8 (decI F r s) := b8_cI (decB_byt (byt_nI hF) (byt_nI hs) r)
theorem encrypt_ok {tb : List Value} (ht : tb = tabT) (r : Nat) (h0 : 0 < r) (h1 : r < 15) (F s : Nat → Int) (hF : B8 F) (hs : B8 s) : CallOK Tryd.prog (fun _ => none) 18 [.p 0 0, .ex (.agg (ar8 16 s).toArray)] [(0, .mix (.p 1 0 :: .ex (.int .i64 (r : Int)) :: (ar8 240 F).map .ex)), (1, .own tb)] { val := .ex (.agg (ar8 16 (encI F r s)).toArray) } :=
  CallOK.ofKey (args := [.agg (ar8 16 s).toArray]) ht hF fun k g w hK hT => by
    rw [← blkV_ar8 s hs]; exact encrypt_any k g r (nI F) (nI s) (byt_nI hF) (byt_nI hs) w hK hT h0 h1
theorem decrypt_ok {tb : List Value} (ht : tb = tabT) (r : Nat) (h0 : 0 < r) (h1 : r < 15) (F s : Nat → Int) (hF : B8 F) (hs : B8 s) : CallOK Tryd.prog (fun _ => none) 23 [.p 0 0, .ex (.agg (ar8 16 s).toArray)] [(0, .mix (.p 1 0 :: .ex (.int .i64 (r : Int)) :: (ar8 240 F).map .ex)), (1, .own tb)] { val := .ex (.agg (ar8 16 (decI F r s)).toArray) } :=
  CallOK.ofKey (args := [.agg (ar8 16 s).toArray]) ht hF fun k g w hK hT => by
    rw [← blkV_ar8 s hs]; exact decrypt_any k g r (nI F) (nI s) (byt_nI hF) (byt_nI hs) w hK hT h0 h1
theorem below_eq {w w' : World} (h : w' = w) : Below w.heap.size w w' := by rw [h]; exact Below.refl _ _
/-- Bytes told as numbers, as the older texts tell them. -/
def u8L (bs : List Int) : List UInt8 := bs.map fun x => UInt8.ofNat x.toNat
theorem u8L_len (bs : List Int) : (u8L bs).length = bs.length := by simp [u8L]
theorem u8L_get (bs : List Int) (h : All8 bs) (i : Nat) (hi : i < bs.length) : (((u8L bs).getD i 0).toNat : Int) = bs.getD i 0 := by
  unfold u8L
  have h8 := h _ (List.getElem_mem hi)
  unfold R8 at h8
  rw [List.getD_eq_getElem?_getD, List.getD_eq_getElem?_getD, List.getElem?_map, List.getElem?_eq_getElem hi]
  simp only [Option.map_some, Option.getD_some]
  rw [UInt8.toNat_ofNat']
  omega
theorem isB_of {ρ : Rho} {w : World} {k : Nat} {bs : List Int} {v : Value} (h8 : All8 bs) (hl : bs.length ≤ 9223372036854775807) (hr : Rel ρ (.sv k 0 bs.length) v) (hb : BRel ρ w k (.view (bs.map (Value.int .u8)))) : IsB w v (u8L bs) := by
  refine ⟨by rw [u8L_len]; exact hl, ?_⟩
  rw [u8L_len]
  have hc : ∀ (l : Loc), ρ k = some l → bs.length = 0 ∨ ∀ i, i < bs.length → w.cell? ⟨l.b, l.d + 0 + i, none⟩ = some (.int .u8 (((u8L bs).getD i 0).toNat : Int)) := fun l hl => by
    obtain ⟨l', g1, g2⟩ := hb
    rw [hl] at g1; cases g1
    rcases g2 with ⟨_, g2⟩ | ⟨_, _, g2⟩
    · left; simpa using congrArg List.length g2
    · right
      intro i hi
      rw [u8L_get bs h8 i hi, Nat.add_zero]
      refine g2 i _ ?_
      rw [List.getElem?_map, List.getElem?_eq_getElem hi, List.getD_eq_getElem?_getD, List.getElem?_eq_getElem hi]; rfl
  generalize bs.length = n at *
  cases hr with
  | sv e hle =>
    rcases hc _ e with h0 | hc
    · exact ⟨_, _, rfl, .inl h0⟩
    · exact ⟨_, _, rfl, .inr ⟨_, _, rfl, hc⟩⟩
  | svn => exact ⟨_, _, rfl, .inl rfl⟩
/-- The round keys of a key's bytes. -/
def kI (bs : List Int) : Nat → Int := cI (eb (lf (u8L bs)) (bs.length / 4) (4 * (nrnd bs.length + 1) - bs.length / 4))
theorem b8_kI (bs : List Int) : B8 (kI bs) := b8_cI (eb_byt (lf_byt _) _ _)
theorem expand_ok {tb : List Value} (ht : tb = tabT) (bs : List Int) (h8 : All8 bs) (hl : bs.length = 16 ∨ bs.length = 24 ∨ bs.length = 32) : CallOK Tryd.prog (fun _ => none) 16 [.p 0 0, .sv 1 0 bs.length] [(0, .own tb), (1, .view (bs.map (Value.int .u8)))]
    { val := .tup [.p 2 0, .ex (.int .i64 0)], upd := [(2, .mix (.p 0 0 :: .ex (.int .i64 (nrnd bs.length : Int)) :: (ar8 240 (kI bs)).map .ex))], nks := [2] } := by
  intro ρ w vs hr hM hN _ _ _
  obtain ⟨l, h1, h2, h3, h4⟩ := own_at (hM 0 (.own tb) (by simp))
  obtain ⟨p, us, rfl, hp, hu⟩ := hr.uncons
  obtain ⟨x, us, rfl, hx, hu⟩ := hu.uncons
  have e3 : us = [] := by have := hu.1; simpa using this.symm
  rw [rel_p0 hp h1 h2, e3]
  have hT := isTab_of ht h3 h4
  have hB := isB_of h8 (by omega) hx (hM 1 (.view (bs.map (Value.int .u8))) (by simp))
  have hn : ρ 2 = none := hN 2 (by simp)
  have hr0 : nrnd bs.length ≠ 0 := by unfold nrnd; rcases hl with h | h | h <;> rw [h] <;> decide
  refine (expand_any l.b x (u8L bs) w hB hT (nrnd bs.length) (by rw [u8L_len]) hr0).mono ?_
  rintro e w' ⟨rfl, hb, hk⟩
  rw [u8L_len] at hk
  have hlt : w.heap.size < w'.heap.size := (Array.getElem?_eq_some_iff.1 hk).1
  refine ⟨_, ρ.add 2 ⟨w.heap.size, 0, 1⟩, rfl, stepNew hn rfl rfl hb hlt ?_ ?_⟩
  · refine .tup rfl fun i y v g1 g2 => ?_
    match i with
    | 0 => simp at g1 g2; subst g1 g2; exact .p (Rho.add_same _ _ _)
    | 1 => simp at g1 g2; subst g1 g2; exact .ex _
    | i + 2 => simp at g1
  · refine ⟨_, _, Rho.add_same _ _ _, rfl, by simp, ⟨_, _, hk, .inl rfl⟩, ?_⟩
    have hl0 : (ρ.add 2 ⟨w.heap.size, 0, 1⟩) 0 = some l := by rw [Rho.add_other _ _ _ _ (by decide)]; exact h1
    unfold keyL
    rw [bc_ar8]
    refine ⟨by simp [length_ar8], fun i y v g1 g2 => ?_⟩
    match i with
    | 0 =>
      simp at g1 g2; subst g1 g2
      have := Rel.p (off := 0) hl0
      rw [h2] at this
      exact this
    | 1 => simp at g1 g2; subst g1 g2; exact .ex _
    | i + 2 =>
      simp only [List.getElem?_cons_succ] at g1 g2
      rw [List.getElem?_map] at g1
      have hkI : ar8 240 (kI bs) = ar8 240 (cI (eb (lf (u8L bs)) (bs.length / 4) (4 * (nrnd bs.length + 1) - bs.length / 4))) := rfl
      rw [hkI, g2] at g1
      cases g1
      exact .ex _
/-! ## boxes and tables -/
def bxC : List Value := tabV (ntab 255)
theorem make_ok {bx : List Value} (hx : bx = bxC) : CallOK Tryd.prog (fun _ => none) 25 [] [] { val := .p 0 0, upd := [(0, .own bx)], nks := [0] } := by
  intro ρ w vs hr _ hN _ _ _
  have hv : vs = [] := by have := hr.1; simpa using this.symm
  subst hv
  refine (make_any w).mono ?_
  rintro e w' ⟨rfl, hk, hb⟩
  have hlt : w.heap.size < w'.heap.size := (Array.getElem?_eq_some_iff.1 hk).1
  exact ⟨_, ρ.add 0 ⟨w.heap.size, 0, 1⟩, rfl, stepNew (hN 0 (by simp)) rfl rfl hb hlt (.p (Rho.add_same _ _ _)) ⟨_, Rho.add_same _ _ _, rfl, by simp, _, _, by rw [hx]; exact hk, .inl rfl⟩⟩
def mixL : List Int := [2, 3, 1, 1, 1, 2, 3, 1, 1, 1, 2, 3, 3, 1, 1, 2]
def unmL : List Int := [14, 11, 13, 9, 9, 14, 11, 13, 13, 9, 14, 11, 11, 13, 9, 14]
theorem mixL_at : ∀ i, i < 4 → ∀ r, r < 4 → mixL[i * 4 + r]? = some ((mixM i r : Nat) : Int) := by decide
theorem unmL_at : ∀ i, i < 4 → ∀ r, r < 4 → unmL[i * 4 + r]? = some ((unM i r : Nat) : Int) := by decide
theorem view_at {ρ : Rho} {w : World} {k g : Nat} {cs : List Value} (h : BRel ρ w k (.view cs)) (hne : cs ≠ []) (hg : ∃ l, ρ k = some l ∧ l.b = g ∧ l.d = 0) {i : Nat} {v : Value} (hi : cs[i]? = some v) : w.cell? ⟨g, i, none⟩ = some v := by
  obtain ⟨l, g1, g2⟩ := h
  obtain ⟨l', k1, k2, k3⟩ := hg
  rw [g1] at k1; cases k1
  rcases g2 with ⟨_, g2⟩ | ⟨_, _, g2⟩
  · exact absurd g2 hne
  · have := g2 i v hi
    rwa [k2, k3, Nat.zero_add] at this
theorem new_ok {mx um : List Value} (hm : mx = mixL.map (Value.int .u8)) (hu : um = unmL.map (Value.int .u8)) {bx : List Value} (hx : bx = bxC) {tb : List Value} (ht : tb = tabT) : CallOK Tryd.prog (fun g => [(0, 1), (1, 2)].lookup g) 24 [.p 0 0] [(0, .own bx), (1, .view mx), (2, .view um)] { val := .p 3 0, upd := [(3, .own tb)], nks := [3] } := by
  intro ρ w vs hr hM hN _ hG _
  obtain ⟨l, h1, h2, h3, h4⟩ := own_at (hM 0 (.own bx) (by simp))
  obtain ⟨p, us, rfl, hp, hq⟩ := hr.uncons
  have e3 : us = [] := by have := hq.1; simpa using this.symm
  rw [rel_p0 hp h1 h2, e3]
  have hl : Laid w := fun i r hi hr =>
    ⟨view_at (hM 1 (.view mx) (by simp)) (by rw [hm]; decide) (hG 0 1 rfl) (by rw [hm, List.getElem?_map, mixL_at i hi r hr]; rfl), view_at (hM 2 (.view um) (by simp)) (by rw [hu]; decide) (hG 1 2 rfl) (by rw [hu, List.getElem?_map, unmL_at i hi r hr]; rfl)⟩
  refine (new_any l.b w ⟨h3, fun j v hj => h4 j v (by rw [hx]; exact hj)⟩ hl).mono ?_
  rintro e w' ⟨rfl, hk, hb⟩
  have hlt : w.heap.size < w'.heap.size := (Array.getElem?_eq_some_iff.1 hk).1
  exact ⟨_, ρ.add 3 ⟨w.heap.size, 0, 1⟩, rfl, stepNew (hN 3 (by simp)) rfl rfl hb hlt (.p (Rho.add_same _ _ _)) ⟨_, Rho.add_same _ _ _, rfl, by simp, _, _, by rw [ht]; exact hk, .inl rfl⟩⟩
end Go.Proofs.YtdfbcdgneboilaaDoor.Ab
