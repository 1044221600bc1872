/- Proved here: for every block, key, place and byte TurnLocal returns true and leaves its argument as it was (a byte that is another one changes just the four bytes of one column, all of them; in a last round just one byte), where the two tables of coefficients lie as the program's text lays them; no other condition. -/
import Derived.Test.YtejhnpgolpjleaaDoorTurnLocalCore
import Derived.Test.YtejhnpgolpjleaaDoorKeysArg
namespace Go.Proofs.YtejhnpgolpjleaaDoor
open Go.ChangeShapes Go.WideShapes Go.ChangeAt Go.RowKit


theorem xor_inj_r {p q d : Nat} (h : p ^^^ d = q ^^^ d) : p = q := by rw [← xor_twice p d, h, xor_twice]
theorem xor_inj_l {p q d : Nat} (h : d ^^^ p = d ^^^ q) : p = q := xor_inj_r (d := d) (by rw [Nat.xor_comm p, Nat.xor_comm q, h])
theorem times_inj (m p q : Nat) (hm : m < 256) (h0 : m ≠ 0) (hp : p < 256) (hq : q < 256) (h : times m p = times m q) : p = q := by
  have e : ∀ x, x < 256 → times (inv m) (times m x) = x := fun x hx => by
    rw [← times_assoc _ _ _ (inv_lt m hm) hm hx, times_comm _ _ (inv_lt m hm) hm, times_inv m hm h0, one_times x hx]
  rw [← e p hp, ← e q hq, h]
theorem mcol_inj (A A' : Nat → Nat) (i r : Nat) (hi : i < 4) (hr : r < 4) (hA : A r < 256) (hA' : A' r < 256) (heq : ∀ j, j < 4 → j ≠ r → A j = A' j) (h : mcol mixM A i = mcol mixM A' i) : A r = A' r := by
  refine times_inj (mixM i r) _ _ (mixM_lt i r hi hr) (mixM_ne i r hi hr) hA hA' ?_
  unfold mcol at h
  match r, hr, heq, h with
  | 0, _, heq, h =>
    rw [heq 1 (by decide) (by decide), heq 2 (by decide) (by decide), heq 3 (by decide) (by decide)] at h
    exact xor_inj_r (xor_inj_r (xor_inj_r h))
  | 1, _, heq, h =>
    rw [heq 0 (by decide) (by decide), heq 2 (by decide) (by decide), heq 3 (by decide) (by decide)] at h
    exact xor_inj_l (xor_inj_r (xor_inj_r h))
  | 2, _, heq, h =>
    rw [heq 0 (by decide) (by decide), heq 1 (by decide) (by decide), heq 3 (by decide) (by decide)] at h
    exact xor_inj_l (xor_inj_r h)
  | 3, _, heq, h =>
    rw [heq 0 (by decide) (by decide), heq 1 (by decide) (by decide), heq 2 (by decide) (by decide)] at h
    exact xor_inj_l h
theorem shf_at : ∀ c, c < 4 → ∀ a, a < 16 → ∀ r, r < 4 → (shf c r = a ↔ c = (a / 4 + 4 - a % 4) % 4 ∧ r = a % 4) := by decide
theorem shi_at : ∀ i, i < 16 → ∀ a, a < 16 → (shi i = a ↔ i = 4 * ((a / 4 + 4 - a % 4) % 4) + a % 4) := by decide
/-- A block of which one byte is another one. -/
def turned (f : Nat → Nat) (a y i : Nat) : Nat := if i = a then f a ^^^ y else f i
theorem turned_byt {f : Nat → Nat} (hf : Byt f) (a y : Nat) (hy : y < 256) : Byt (turned f a y) := fun i => by
  unfold turned; split
  · exact xor_lt _ _ (hf a) hy
  · exact hf i
theorem turned_ne (f : Nat → Nat) (a y : Nat) (hy : y ≠ 0) : turned f a y a ≠ f a := fun h => by
  unfold turned at h
  rw [if_pos rfl] at h
  have : y = 0 := xor_inj_l (d := f a) (by rw [h, Nat.xor_zero])
  exact hy this
theorem local_lst {f k : Nat → Nat} (hf : Byt f) (a y i : Nat) (hy : y < 256) (h0 : y ≠ 0) (ha : a < 16) (hi : i < 16) : lst f k i ≠ lst (turned f a y) k i ↔ i = 4 * ((a / 4 + 4 - a % 4) % 4) + a % 4 := by
  rw [← shi_at i hi a ha]
  unfold lst
  constructor
  · intro h
    refine Decidable.byContradiction fun h' => h ?_
    unfold turned; rw [if_neg h']
  · intro h e
    have e2 := sbox_inj _ _ (hf _) (turned_byt hf a y hy _) (xor_inj_r e)
    rw [h] at e2
    exact turned_ne f a y h0 e2.symm
theorem local_rnd {f k : Nat → Nat} (hf : Byt f) (a y i : Nat) (hy : y < 256) (h0 : y ≠ 0) (ha : a < 16) (hi : i < 16) : rnd f k i ≠ rnd (turned f a y) k i ↔ i / 4 = (a / 4 + 4 - a % 4) % 4 := by
  have hc : i / 4 < 4 := by omega
  have key := shf_at (i / 4) hc a ha
  unfold rnd
  constructor
  · intro h
    refine Decidable.byContradiction fun h' => h ?_
    rw [mcol_congr mixM (b := fun r => sbox (turned f a y (shf (i / 4) r))) _ fun r hr => by
      unfold turned
      rw [if_neg fun e => h' ((key r hr).1 e).1]]
  · intro h e
    have hs : shf (i / 4) (a % 4) = a := (key (a % 4) (Nat.mod_lt _ (by decide))).2 ⟨h, rfl⟩
    have e2 := mcol_inj (fun r => sbox (f (shf (i / 4) r))) (fun r => sbox (turned f a y (shf (i / 4) r))) (i % 4) (a % 4) (Nat.mod_lt _ (by decide)) (Nat.mod_lt _ (by decide)) (sbox_lt _ (hf _)) (sbox_lt _ (turned_byt hf a y hy _))
      (fun j hj hne => by
        show sbox _ = sbox _
        unfold turned
        rw [if_neg fun e => hne ((key j hj).1 e).2]) (xor_inj_r e)
    have e3 := sbox_inj _ _ (hf _) (turned_byt hf a y hy _) e2
    rw [hs] at e3
    exact turned_ne f a y h0 e3.symm
theorem one_of_trod {H : Type} {enc : TypeId × Value → H} {W : World} {base : Nat} {v : Value} {d : DataW H} {p : List MemPlace} (hv : Value.okWide Tryd.prog W .any base 42 v)
    (h : DataW.Trod enc Tryd.prog W 0 (fun _ => true) true 42 v d p) : ∃ bs : List UInt8, bs.length = 34 ∧ v = .agg (bcells bs).toArray := by
  obtain ⟨cs, rfl⟩ : ∃ cs, v = .agg cs := by
    unfold Value.okWide at hv
    rw [Tryd.underlying42] at hv
    cases v <;> simp_all
  obtain ⟨fuel, hf⟩ := h
  obtain ⟨xs, n, _, _, hc, hl, hel⟩ := DataW.trod_struct Tryd.underlying42 hf
  have c34 : Tryd.prog.cellsOf 42 = 34 := by kernel_rfl
  have c16 : Tryd.prog.cellsOf 22 = 16 := by kernel_rfl
  have c1 : Tryd.prog.cellsOf 5 = 1 := by kernel_rfl
  rw [c34] at hc
  simp only [Value.cells] at hc hel
  have hl4 : xs.length = 4 := hl
  have h0 : DataW.trod enc Tryd.prog W 0 (fun _ => true) true n 22 ((cs.toList.drop 0).take (Tryd.prog.cellsOf 22)) = xs[0]? := hel 0 _ rfl
  have h1 : DataW.trod enc Tryd.prog W 0 (fun _ => true) true n 22 ((cs.toList.drop 16).take (Tryd.prog.cellsOf 22)) = xs[1]? := hel 1 _ rfl
  have h2 : DataW.trod enc Tryd.prog W 0 (fun _ => true) true n 5 ((cs.toList.drop 32).take (Tryd.prog.cellsOf 5)) = xs[2]? := hel 2 _ rfl
  have h3 : DataW.trod enc Tryd.prog W 0 (fun _ => true) true n 5 ((cs.toList.drop 33).take (Tryd.prog.cellsOf 5)) = xs[3]? := hel 3 _ rfl
  rw [List.getElem?_eq_getElem (by omega)] at h0 h1 h2 h3
  rw [c16] at h0 h1
  rw [c1] at h2 h3
  obtain ⟨b0, l0, e0⟩ := arr16_cells h0
  obtain ⟨b1, l1, e1⟩ := arr16_cells h1
  obtain ⟨z2, e2, _, w2⟩ := DataW.trod_int Tryd.underlying5 h2
  obtain ⟨z3, e3, _, w3⟩ := DataW.trod_int Tryd.underlying5 h3
  have u2 := bounds_u8 w2
  have u3 := bounds_u8 w3
  have cast : ∀ z : Int, 0 ≤ z ∧ z ≤ 255 → [Value.int .u8 z] = bcells [UInt8.ofNat z.toNat] := fun z hz => by
    show _ = [Value.int .u8 ((UInt8.ofNat z.toNat).toNat : Int)]
    rw [UInt8.toNat_ofNat', Nat.mod_eq_of_lt (by omega)]
    congr 2; omega
  refine ⟨b0 ++ b1 ++ [UInt8.ofNat z2.toNat] ++ [UInt8.ofNat z3.toNat], by simp [l0, l1], ?_⟩
  have hcl : cs.toList.length = 34 := by simpa using hc
  have parts : cs.toList = (cs.toList.drop 0).take 16 ++ (cs.toList.drop 16).take 16 ++ (cs.toList.drop 32).take 1 ++ (cs.toList.drop 33).take 1 := by
    generalize cs.toList = l at hcl
    have a1 : l.drop 33 = (l.drop 33).take 1 := by rw [List.take_of_length_le (by simp; omega)]
    have a2 : l.drop 32 = (l.drop 32).take 1 ++ l.drop 33 := by have := (List.take_append_drop 1 (l.drop 32)).symm; rwa [List.drop_drop] at this
    have a3 : l.drop 16 = (l.drop 16).take 16 ++ l.drop 32 := by have := (List.take_append_drop 16 (l.drop 16)).symm; rwa [List.drop_drop] at this
    have a4 : l = (l.drop 0).take 16 ++ l.drop 16 := (List.take_append_drop 16 l).symm
    rw [← a1, List.append_assoc, ← a2, List.append_assoc, ← a3, ← a4]
  have ap : ∀ a b : List UInt8, bcells (a ++ b) = bcells a ++ bcells b := fun a b => by unfold bcells; rw [List.map_append]
  have e : cs.toList = bcells (b0 ++ b1 ++ [UInt8.ofNat z2.toNat] ++ [UInt8.ofNat z3.toNat]) := by
    rw [ap, ap, ap, ← cast z2 u2, ← cast z3 u3, parts]
    exact congr (congrArg _ (congr (congrArg _ (congr (congrArg _ e0) e1)) e2)) e3
  rw [← e]
theorem local_walk (w : World) (hl : Laid w) (bs : List UInt8) (hb : bs.length = 34) :
    Calls Tryd.prog 10 #[.agg (bcells bs).toArray] w fun e w' => e = .returned (.bool true) ∧ Below w.heap.size w w' := by
  have hg : ∀ j, j < 34 → (bcells bs).toArray[j]? = some (.int .u8 (lf bs j : Nat)) := fun j hj => by simpa [lf] using bcells_get bs j (by omega)
  have hf0 := lf_byt bs
  generalize lf bs = F at hg hf0
  generalize (bcells bs).toArray = B at hg ⊢
  by_cases hy0 : F 33 = 0
  · exact local_none B (by rw [hg 33 (by decide), hy0]; rfl) w
  have hf : Byt F := hf0
  have hk : Byt fun i => F (16 + i) := fun i => hf0 _
  have ha : F 32 % 16 < 16 := Nat.mod_lt _ (by decide)
  have ht := turned_byt hf (F 32 % 16) (F 33) (hf0 33)
  have z : ∀ f, (bc 16 f).toArray.size = 16 := fun f => by rw [List.size_toArray, bc_len]
  exact local_core (bc 16 F) (bc 16 fun i => F (16 + i)) (bc 16 (turned F (F 32 % 16) (F 33))) (bc 16 (rnd F fun i => F (16 + i))) (bc 16 (rnd (turned F (F 32 % 16) (F 33)) fun i => F (16 + i))) (bc 16 (lst F fun i => F (16 + i))) (bc 16 (lst (turned F (F 32 % 16) (F 33)) fun i => F (16 + i))) (bc 16 fun _ => 0) B (F 32) (F 32 % 16) (F 33) (F (F 32 % 16)) (F (F 32 % 16) ^^^ F 33) _ _ _ _ _ (bc_len _ _) (bc_len _ _) (bc_len _ _) w
    (fun j v hj => by
      have h := (List.getElem?_eq_some_iff.1 hj).1
      rw [bc_len] at h
      rw [bc_get 16 _ j h] at hj
      rw [hg j (by omega)]; exact hj)
    (fun j v hj => by
      have h := (List.getElem?_eq_some_iff.1 hj).1
      rw [bc_len] at h
      rw [bc_get 16 _ j h] at hj
      rw [hg (16 + j) (by omega)]; exact hj)
    (hg 32 (by decide)) (hg 33 (by decide)) (by rw [beq_eq_false_iff_ne]; omega) rfl (bc_get 16 F _ ha) (xor_u8 _ _ (hf _) (hf 33))
    (by show (bc 16 F).set _ _ = _; rw [bc_set]; rfl) rfl (bc_one _ _) (z _) (z _) (z _) (z _) (z _) (bc_one _ _) (bc_one _ _) (bc_one _ _) (bc_one _ _) zero16
    (fun i hi => bc_get 16 _ i hi) (fun i hi => bc_get 16 _ i hi) (fun i hi => bc_get 16 _ i hi) (fun i hi => bc_get 16 _ i hi)
    (fun i hi => ⟨local_rnd hf _ _ i (hf 33) hy0 ha hi, local_lst hf _ _ i (hf 33) hy0 ha hi⟩)
    (fun w' hb => tables_any w' (hl.later hb)) (fun w' hb => awake_any w' (hl.later hb)) (fun g w ht' => round_any g F _ hf hk w ht') (fun g w ht' => round_any g _ _ ht hk w ht') (fun g w ht' => last_any g F _ hf hk w ht') (fun g w ht' => last_any g _ _ ht hk w ht')
set_option linter.unusedVariables false in
set_option maxRecDepth 100000 in
theorem turnLocal_lifted (os : Os) (started : os.Started) (H : Type) (enc : TypeId × Value → H) :
    ReturnsInHanded {} Tryd.checked os 10 .any (fun w args => (Rows.turnLocalSpec.pre enc Tryd.prog Tryd.f10 [] false w args ∧ laidMetH Tryd.prog lay2 w) ∧ sizedMet enc Tryd.prog Tryd.f10 (OpenSpec.ofChange Rows.turnLocalSpec) false w args)
      (Rows.turnLocalSpec.post enc Tryd.prog Tryd.f10 false true false false) := by
  refine returnsInHanded_of_change_and (C := Tryd.checked) (X := fun w _ => laidMetH Tryd.prog lay2 w) (fun _ _ _ hh h => h.of_heap hh) own started (by kernel_rfl) Tryd.func10
    (ChangeSpec.witness_shaped (enc := enc) (C := Tryd.checked) (os := os) (X := fun w _ => laidMetH Tryd.prog lay2 w) false (World.doorLaid Tryd.prog 400 os) #[.agg #[.int .u8 0, .int .u8 0, .int .u8 0, .int .u8 0, .int .u8 0, .int .u8 0, .int .u8 0, .int .u8 0, .int .u8 0, .int .u8 0, .int .u8 0, .int .u8 0, .int .u8 0, .int .u8 0, .int .u8 0, .int .u8 0, .int .u8 0, .int .u8 0, .int .u8 0, .int .u8 0, .int .u8 0, .int .u8 0, .int .u8 0, .int .u8 0, .int .u8 0, .int .u8 0, .int .u8 0, .int .u8 0, .int .u8 0, .int .u8 0, .int .u8 0, .int .u8 0, .int .u8 0, .int .u8 0]] 8 rfl (World.shaped_of_RefB (by kernel_rfl) (by kernel_rfl)) (by kernel_rfl) (by kernel_rfl) (by kernel_rfl) (door_met os _)) ?_
  intro W base args ds gs before hval0 hW _ _ hL _
  have hval : ∀ (j : Nat) t v, Tryd.f10.params[j]? = some t → args[j]? = some v → Value.okWide Tryd.prog W .any base t v := hval0
  have hW' := hW
  obtain ⟨p, q, hA0, hV, rfl, hfz, hnd⟩ := hW
  have hA : DataW.TrodAll enc Tryd.prog W 0 (fun _ => true) true Tryd.f10.params.toList args.toList ds p := hA0
  rw [Tryd.params10] at hA hval
  obtain ⟨v0, vs0, d0, ds0, p0, q0, hargs, rfl, rfl, h0, r0⟩ := trodAll_cons hA
  obtain ⟨rfl, rfl, rfl⟩ := trodAll_nil r0
  obtain rfl : args = #[v0] := by cases args; simp_all
  obtain ⟨rfl, rfl⟩ := trodVars_none hV
  have lt0 : ∀ x ∈ p0, x.block < W.heap.size := by obtain ⟨m, hm⟩ := h0; exact DataW.trod_lt m _ _ _ hm
  obtain ⟨bs0, hl0, rfl⟩ := one_of_trod (hval 0 42 v0 rfl rfl) h0
  clear hA0 hval0
  refine (local_walk W (laid_of hL) bs0 hl0).mono fun e W' ⟨he, bel⟩ => ?_
  subst he
  exact ⟨_, rfl, _, _, _, [], _, [], hW', trodAll_mk1 (shut_bool Tryd.underlying4 _), (trodAll_cons_mk (Below.trod laidOut (by kernel_rfl) (of_decide_eq_true (by kernel_rfl)) h0 bel lt0) trodAll_mk0), rfl, bel.frame _, fun h => by cases h⟩
theorem turnLocal_holds : Rows.TurnLocalSaid :=
  OpenClaim.holds_of_wide 10 Tryd.f10 rfl rfl rfl rfl rfl rfl rfl ⟨rfl, rfl, rfl, rfl, rfl⟩ rfl rfl rfl rfl rfl (by kernel_rfl) Tryd.func10 (by kernel_rfl)
    (of_decide_eq_true (by kernel_rfl)) (by unfold Func.isWrapper; first | (rw [if_pos (by decide +kernel)]; kernel_rfl) | (rw [if_neg (by decide +kernel)]; exact ⟨rfl, rfl⟩))
    (fun os started H enc _ => turnLocal_lifted os started H enc)
theorem turnLocal_card : Rows.TurnLocalCardSaid :=
  Claim7.holds_tied_plain_at .later [] [.data, .data] true _ false
    turnLocal_holds (fun _ h => by cases h) (by kernel_rfl) (fun _ h => by cases h) turnLocal_row_tie rfl ⟨rfl, rfl⟩ (by kernel_rfl) rfl
    (fun f fn hf hfn => by
      obtain rfl : f = 10 := Option.some.inj ((show Tryd.prog.funcNamed "wringer/wringerlaw03.TurnLocal" = some 10 by kernel_rfl).symm.trans hf) |>.symm
      obtain rfl : fn = Tryd.f10 := (Option.some.inj (Tryd.func10.symm.trans hfn)).symm
      exact ⟨by kernel_rfl, fun j t ht => by
        rw [Tryd.params10] at ht
        have hm : t ∈ [42] := by simpa using Array.mem_of_getElem? ht
        have hall : ([42].all fun u => !Tryd.prog.wantsStandIn u) = true := by kernel_rfl
        exact (show Tryd.prog.wantsStandIn t = false by simpa using List.all_eq_true.1 hall t hm)⟩)
    (by kernel_rfl)
#print axioms turnLocal_card

end Go.Proofs.YtejhnpgolpjleaaDoor
