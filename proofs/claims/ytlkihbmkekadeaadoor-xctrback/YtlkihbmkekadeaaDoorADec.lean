/- Own: Decrypt of layer 4 (no statement is proved here). -/
import Derived.Test.YtlkihbmkekadeaaDoorAEnc
namespace Go.Proofs.YtlkihbmkekadeaaDoor
open Go.ChangeShapes Go.WideShapes Go.ChangeAt Go.RowKit
set_option maxRecDepth 20000

set_option linter.unusedSimpArgs false in
set_option maxRecDepth 100000 in
set_option maxHeartbeats 4000000 in
theorem decrypt_core (k g r : Nat) (F : Nat → Nat) (U K : Nat → List Value) (X X3 K0 Kr : List Value) (w : World) (hk : IsKey w k g r F) (hr : 0 < r) (hr2 : r < 15)
    (sX : X.toArray.size = 16) (sU : Hid (∀ j, (U j).toArray.size = 16)) (sX3 : X3.toArray.size = 16)
    (oU : Hid (∀ j, (U j).toArray.all (·.oneCell') = true)) (oX3 : Hid (X3.toArray.all (·.oneCell') = true))
    (iK0 : (Tryd.prog.info? 31).map (·.size) = some K0.length) (iKr : (Tryd.prog.info? 31).map (·.size) = some Kr.length) (iK : Hid (∀ i, (Tryd.prog.info? 31).map (·.size) = some (K i).length))
    (hK0 : Hid (∀ w', IsKey w' k g r F → w'.rangeAt k 2 K0)) (hKr : Hid (∀ w', IsKey w' k g r F → w'.rangeAt k (2 + r * 16) Kr)) (hK : Hid (∀ i, i < 15 → ∀ w', IsKey w' k g r F → w'.rangeAt k (2 + i * 16) (K i)))
    (cL : Hid (∀ w', Below w.heap.size w w' → Calls Tryd.prog 45 #[.pointer (some ⟨g, 0, none⟩), .agg X.toArray, .agg Kr.toArray] w' fun e w'' => e = .returned (.agg (U 0).toArray) ∧ Below w'.heap.size w' w''))
    (cU : Hid (∀ i j, i + 1 + j = r - 1 → ∀ w', Below w.heap.size w w' → Calls Tryd.prog 46 #[.pointer (some ⟨g, 0, none⟩), .agg (U j).toArray, .agg (K (i + 1)).toArray] w' fun e w'' => e = .returned (.agg (U (j + 1)).toArray) ∧ Below w'.heap.size w' w''))
    (cS : Hid (∀ w', Calls Tryd.prog 43 #[.agg (U (r - 1)).toArray, .agg K0.toArray] w' fun e w'' => e = .returned (.agg X3.toArray) ∧ Below w'.heap.size w' w'')) :
    Calls Tryd.prog 24 #[.pointer (some ⟨k, 0, none⟩), .agg X.toArray] w fun e w' => e = .returned (.agg X3.toArray) ∧ Below w.heap.size w w' := by
  obtain ⟨Z, hZ⟩ : ∃ Z, Z = bc 16 (fun _ => 0) := ⟨_, rfl⟩
  have hz := zero16
  rw [← hZ] at hz
  have sZ : Z.toArray.size = 16 := by rw [hZ, List.size_toArray, bc_len]
  have H1 : Hid (Below w.heap.size w ((w.alloc (.cells X.toArray 31)).alloc (.cells Z.toArray 31)) ∧ ((w.alloc (.cells X.toArray 31)).alloc (.cells Z.toArray 31)).heap[w.heap.size]? = some (.cells X.toArray 31 (0, 0)) ∧ ((w.alloc (.cells X.toArray 31)).alloc (.cells Z.toArray 31)).heap[w.heap.size + 1]? = some (.cells Z.toArray 31 (0, 0))) :=
    ⟨below_alloc (below_alloc (Below.refl _ _) _) _, heap_alloc2_old _ _ _, heap_alloc2_new _ _ _⟩
  have c1 := (IsKey.later hk H1.out.1).rounds
  have i1 : ¬ (r : Int) = 0 := by omega
  have i6 : (r : Int) < 15 := by omega
  have i7 : r ≤ 15 := by omega
  obtain ⟨X1, hX1⟩ : ∃ X1, X1 = U 0 := ⟨_, rfl⟩
  rw [← hX1] at cL
  have sX1 : X1.toArray.size = 16 := by rw [hX1]; exact sU.out 0
  have oX1 : Hid (X1.toArray.all (·.oneCell') = true) := by rw [hX1]; exact oU.out 0
  have HX1 := hide hX1
  clear hZ hX1
  go_enter Tryd.func24, Tryd.ntmps24
  go_wp2_with fail
  obtain ⟨W1, hW1⟩ : ∃ W1, W1 = (w.alloc (.cells X.toArray 31)).alloc (.cells Z.toArray 31) := ⟨_, rfl⟩
  rw [← hW1] at H1 ⊢
  clear hW1 c1
  have G1 : IsKey W1 k g r F := IsKey.later hk H1.out.1
  have R1 := H1.out.2.1
  refine wp_region_held_drew (S := fun w' => IsKey w' k g r F) (by kernel_rfl) ?_ (fun hHeld => ?_)
  · exact G1
  refine wpAnyH_take (i := 0) (v := ?_) rfl (by kernel_rfl) (by kernel_rfl) (by kernel_rfl) (fun _ _ _ h => h) (Or.inl ⟨by rfl, ?_⟩) (by assumption) ?_
  rotate_left
  · (intro w hSw; (have c0 := IsKey.tab hSw); (have c1 := IsKey.rounds hSw); clear hSw; simp only [List.getElem_toArray, List.getElem_cons_zero]; go_simp; try with_reducible rfl)
  simp only [Act.put, List.getElem_toArray, List.getElem_cons_zero, List.setIfInBounds_toArray, List.set_cons_zero, List.set_cons_succ]
  refine wpAnyH_take (i := 1) (v := ?_) rfl (by kernel_rfl) (by kernel_rfl) (by kernel_rfl) (fun _ _ _ h => h) (Or.inl ⟨by rfl, ?_⟩) (by assumption) ?_
  rotate_left
  · (intro w hSw; (have c0 := IsKey.tab hSw); (have c1 := IsKey.rounds hSw); clear hSw; simp only [List.getElem_toArray, List.getElem_cons_succ, List.getElem_cons_zero]; go_simp; try with_reducible rfl)
  simp only [Act.put, List.getElem_toArray, List.getElem_cons_succ, List.getElem_cons_zero, List.setIfInBounds_toArray, List.set_cons_zero, List.set_cons_succ]
  refine wpAnyH_take (i := 2) (v := ?_) rfl (by kernel_rfl) (by kernel_rfl) (by kernel_rfl) (fun _ _ _ h => h) (Or.inl ⟨by rfl, ?_⟩) (by assumption) ?_
  rotate_left
  · (intro w hSw; (have c0 := IsKey.tab hSw); (have c1 := IsKey.rounds hSw); clear hSw; simp only [List.getElem_toArray, List.getElem_cons_succ, List.getElem_cons_zero]; go_simp; try with_reducible rfl)
  simp only [Act.put, List.getElem_toArray, List.getElem_cons_succ, List.getElem_cons_zero, List.setIfInBounds_toArray, List.set_cons_zero, List.set_cons_succ]
  refine wpAnyH_take (i := 3) (v := ?_) rfl (by kernel_rfl) (by kernel_rfl) (by kernel_rfl) (fun _ _ _ h => h) (Or.inl ⟨by rfl, ?_⟩) (by assumption) ?_
  rotate_left
  · (intro w hSw; (have c0 := IsKey.tab hSw); (have c1 := IsKey.rounds hSw); clear hSw; simp only [List.getElem_toArray, List.getElem_cons_succ, List.getElem_cons_zero]; go_simp; try with_reducible rfl)
  simp only [Act.put, List.getElem_toArray, List.getElem_cons_succ, List.getElem_cons_zero, List.setIfInBounds_toArray, List.set_cons_zero, List.set_cons_succ]
  refine wpAnyH_take (i := 5) (v := ?_) rfl (by kernel_rfl) (by kernel_rfl) (by kernel_rfl) (fun _ _ _ h => h) (Or.inl ⟨by rfl, ?_⟩) (by assumption) ?_
  rotate_left
  · (intro w hSw; (have c0 := IsKey.tab hSw); (have c1 := IsKey.rounds hSw); clear hSw; simp only [List.getElem_toArray, List.getElem_cons_succ, List.getElem_cons_zero]; go_simp; try with_reducible rfl)
  simp only [Act.put, List.getElem_toArray, List.getElem_cons_succ, List.getElem_cons_zero, List.setIfInBounds_toArray, List.set_cons_zero, List.set_cons_succ]
  refine wpAnyH_take (i := 6) (v := ?_) rfl (by kernel_rfl) (by kernel_rfl) (by kernel_rfl) (fun _ _ _ h => h) (Or.inl ⟨by rfl, ?_⟩) (by assumption) ?_
  rotate_left
  · (intro w hSw; (have c0 := IsKey.tab hSw); (have c1 := IsKey.rounds hSw); clear hSw; simp only [List.getElem_toArray, List.getElem_cons_succ, List.getElem_cons_zero]; go_simp; try with_reducible rfl)
  simp only [Act.put, List.getElem_toArray, List.getElem_cons_succ, List.getElem_cons_zero, List.setIfInBounds_toArray, List.set_cons_zero, List.set_cons_succ]
  refine wpAnyH_take (i := 7) (v := ?_) rfl (by kernel_rfl) (by kernel_rfl) (by kernel_rfl) (fun _ _ _ h => h) (Or.inl ⟨by rfl, ?_⟩) (by assumption) ?_
  rotate_left
  · (intro w hSw; (have c0 := IsKey.tab hSw); (have c1 := IsKey.rounds hSw); clear hSw; simp only [List.getElem_toArray, List.getElem_cons_succ, List.getElem_cons_zero]; go_simp; try with_reducible rfl)
  simp only [Act.put, List.getElem_toArray, List.getElem_cons_succ, List.getElem_cons_zero, List.setIfInBounds_toArray, List.set_cons_zero, List.set_cons_succ]
  refine wpAnyH_take (i := 8) (v := ?_) rfl (by kernel_rfl) (by kernel_rfl) (by kernel_rfl) (fun _ _ _ h => h) (Or.inl ⟨by rfl, ?_⟩) (by assumption) ?_
  rotate_left
  · (intro w hSw; (have c0 := IsKey.tab hSw); (have c1 := IsKey.rounds hSw); clear hSw; simp only [List.getElem_toArray, List.getElem_cons_succ, List.getElem_cons_zero]; go_simp; try with_reducible rfl)
  simp only [Act.put, List.getElem_toArray, List.getElem_cons_succ, List.getElem_cons_zero, List.setIfInBounds_toArray, List.set_cons_zero, List.set_cons_succ]
  refine wpAnyH_take (i := 9) (v := ?_) rfl (by kernel_rfl) (by kernel_rfl) (by kernel_rfl) (fun _ _ _ h => h) (Or.inl ⟨by rfl, ?_⟩) (by assumption) ?_
  rotate_left
  · (intro w hSw; (have c0 := IsKey.tab hSw); (have c1 := IsKey.rounds hSw); clear hSw; simp only [List.getElem_toArray, List.getElem_cons_succ, List.getElem_cons_zero]; go_simp; try with_reducible rfl)
  simp only [Act.put, List.getElem_toArray, List.getElem_cons_succ, List.getElem_cons_zero, List.setIfInBounds_toArray, List.set_cons_zero, List.set_cons_succ]
  refine wpAnyH_take (i := 10) (v := ?_) rfl (by kernel_rfl) (by kernel_rfl) (by kernel_rfl) (fun _ _ _ h => h) (Or.inl ⟨by rfl, ?_⟩) (by assumption) ?_
  rotate_left
  · (intro w hSw; (have c0 := IsKey.tab hSw); (have c1 := IsKey.rounds hSw); clear hSw; simp only [List.getElem_toArray, List.getElem_cons_succ, List.getElem_cons_zero]; go_simp; try with_reducible rfl)
  simp only [Act.put, List.getElem_toArray, List.getElem_cons_succ, List.getElem_cons_zero, List.setIfInBounds_toArray, List.set_cons_zero, List.set_cons_succ]
  refine wpAnyH_take (i := 11) (v := ?_) rfl (by kernel_rfl) (by kernel_rfl) (by kernel_rfl) (fun _ _ _ h => h) (Or.inl ⟨by rfl, ?_⟩) (by assumption) ?_
  rotate_left
  · (intro w hSw; (have c0 := IsKey.tab hSw); (have c1 := IsKey.rounds hSw); clear hSw; simp only [List.getElem_toArray, List.getElem_cons_succ, List.getElem_cons_zero]; go_simp; try with_reducible rfl)
  simp only [Act.put, List.getElem_toArray, List.getElem_cons_succ, List.getElem_cons_zero, List.setIfInBounds_toArray, List.set_cons_zero, List.set_cons_succ]
  refine wpAnyH_take (i := 12) (v := ?_) rfl (by kernel_rfl) (by kernel_rfl) (by kernel_rfl) (fun _ _ _ h => h) (Or.inl ⟨by rfl, ?_⟩) (by assumption) ?_
  rotate_left
  · (intro w hSw; (have c0 := IsKey.tab hSw); (have c1 := IsKey.rounds hSw); clear hSw; simp only [List.getElem_toArray, List.getElem_cons_succ, List.getElem_cons_zero]; go_simp; try with_reducible rfl)
  simp only [Act.put, List.getElem_toArray, List.getElem_cons_succ, List.getElem_cons_zero, List.setIfInBounds_toArray, List.set_cons_zero, List.set_cons_succ]
  refine wpAnyH_take (i := 13) rfl (by kernel_rfl) (by kernel_rfl) (by kernel_rfl) (fun _ _ _ h => h) (yieldsIf_load_mid (by rfl) _ _ rfl _ _ rfl Kr _ (fun w hSw => hKr.out w hSw) Tryd.underlying31 rfl iKr) (by assumption) ?_
  simp only [Act.put, List.getElem_toArray, List.getElem_cons_succ, List.getElem_cons_zero, List.setIfInBounds_toArray, List.set_cons_zero, List.set_cons_succ]
  refine wpAnyH_ready (rs := [4]) (by kernel_rfl) (by simp) ?_
  refine AllReadyH.cons rfl (fun K hK => ?_) AllReadyH.nil
  rw [if_pos (by rfl)]
  refine wp_load_row 31 _ rfl w.heap.size rfl 31 X.toArray (0, 0) _ R1 Tryd.underlying31 rfl (by rw [sX]; rfl) (hK.out _ _ G1 (fun hHeld => ?_))
  clear hK K
  try simp only [Act.put, List.setIfInBounds_toArray, List.set_cons_zero, List.set_cons_succ]
  refine wpAnyH_ready (rs := [14]) (by kernel_rfl) (by simp) ?_
  refine AllReadyH.cons rfl (fun K hK => ?_) AllReadyH.nil
  simp only [List.getElem_toArray, List.getElem_cons_succ, List.getElem_cons_zero]
  go_simp
  refine (cL.out _ H1.out.1.drew).mono ?_
  rintro e v1 ⟨rfl, bc1⟩
  go_wp2_with fail
  refine hK.out _ _ ?_ (fun hHeld => ?_)
  · exact IsKey.later (w := W1.drew) G1 bc1
  clear hK K
  try simp only [Act.put, List.setIfInBounds_toArray, List.set_cons_zero, List.set_cons_succ]
  have B1 := below_two H1.out.1.drew bc1
  have RX1 := (bc1.block _ (Array.getElem?_eq_some_iff.1 H1.out.2.1).1).trans H1.out.2.1
  have RZ1 := (bc1.block _ (Array.getElem?_eq_some_iff.1 H1.out.2.2).1).trans H1.out.2.2
  have GK1 : IsKey (v1.setRow (w.heap.size) X1.toArray) k g r F := IsKey.later hk (below_setRow B1 (by omega) _)
  refine wpAnyH_ready (rs := [15]) (by kernel_rfl) (by simp) ?_
  refine AllReadyH.cons rfl (fun K hK => ?_) AllReadyH.nil
  rw [if_pos (by rfl)]
  refine wp_store_row 31 _ _ rfl (w.heap.size) X1.toArray rfl rfl 31 X.toArray RX1 (by rw [sX1]; rfl) (by rw [sX1, sX]) oX1.out (hK.out _ _ GK1 (fun hHeld => ?_))
  clear hK K
  try simp only [Act.put, List.setIfInBounds_toArray, List.set_cons_zero, List.set_cons_succ]
  refine wpAnyH_done (by kernel_rfl) ?_ _
  have H2 : Hid (Below w.heap.size w (v1.setRow w.heap.size X1.toArray) ∧ (v1.setRow w.heap.size X1.toArray).heap[w.heap.size]? = some (.cells X1.toArray 31 (0, 0)) ∧ (v1.setRow w.heap.size X1.toArray).heap[w.heap.size + 1]? = some (.cells Z.toArray 31 (0, 0))) := ⟨below_setRow B1 (by omega) _, setRow_heap _ _ _ _ _ _ RX1, (setRow_other _ _ _ _ (by omega)).trans RZ1⟩
  obtain ⟨W2, hW2⟩ : ∃ W2, W2 = v1.setRow w.heap.size X1.toArray := ⟨_, rfl⟩
  rw [← hW2] at H2 ⊢
  clear hW2 GK1 RX1 RZ1 B1 bc1 G1 R1 hHeld
  have c1 := (IsKey.later hk H2.out.1).rounds
  obtain ⟨q, hq⟩ : ∃ q, r = q + 1 := ⟨r - 1, by omega⟩
  have j1 : (r : Int) - 1 = (q : Int) := by omega
  have j2 : IntKind.i64.wrap ((r : Int) - 1) = (q : Int) := by rw [IntKind.wrap_i64]; omega
  have HQ := hide hq
  clear hq
  go_wp2_with fail
  go_loopw [5] (fun v wr => ∃ i j : Nat, i + j = q ∧ v = .int .i64 i ∧ Hid (Below w.heap.size w wr ∧ wr.heap[w.heap.size]? = some (.cells (U j).toArray 31 (0, 0)) ∧ wr.heap[w.heap.size + 1]? = some (.cells Z.toArray 31 (0, 0)))) (fun v _ => (intOf v).toNat)
  case atStart =>
    refine ⟨q, 0, by omega, rfl, ?_⟩
    rw [← HX1.out]; exact H2
  case round =>
    obtain ⟨i, j, hij, rfl, H5⟩ := hrel
    obtain ⟨A, hA⟩ : ∃ A, A = U j := ⟨_, rfl⟩
    have sA : A.toArray.size = 16 := by rw [hA]; exact sU.out j
    rw [← hA] at H5
    clear c1 j1 j2 H2
    by_cases hlt : 0 < i
    · obtain ⟨n, rfl⟩ : ∃ n, i = n + 1 := ⟨i - 1, by omega⟩
      obtain ⟨B, hB⟩ : ∃ B, B = U (j + 1) := ⟨_, rfl⟩
      obtain ⟨Ki, hKk⟩ : ∃ Ki, Ki = K (n + 1) := ⟨_, rfl⟩
      have sB : B.toArray.size = 16 := by rw [hB]; exact sU.out _
      have oB : Hid (B.toArray.all (·.oneCell') = true) := by rw [hB]; exact oU.out _
      have iKi : (Tryd.prog.info? 31).map (·.size) = some Ki.length := by rw [hKk]; exact iK.out _
      have KU := hide (cU.out n j (by have := HQ.out; omega))
      rw [← hA, ← hB, ← hKk] at KU
      obtain ⟨m, hm⟩ : ∃ m, m = n + 1 := ⟨_, rfl⟩
      have hKi : Hid (∀ w', IsKey w' k g r F → w'.rangeAt k (2 + m * 16) Ki) := fun w' h => by rw [hKk, hm]; exact hK.out (n + 1) (by have := HQ.out; omega) w' h
      rw [← hm]
      have n1 : (0 : Int) < (m : Int) := by omega
      have n2 : (m : Int) < 15 := by have := HQ.out; omega
      have n3 : decide ((0 : Int) < (m : Int)) = true := decide_eq_true n1
      have n4 : (m : Int) - 1 = (n : Int) := by omega
      have n5 : IntKind.i64.wrap ((m : Int) - 1) = (n : Int) := by rw [IntKind.wrap_i64]; omega
      have HB := hide hB
      have HM := hide hm
      have HIJ := hide hij
      clear hA hB hKk hm hij cU hK cL
      go_wp2_with fail
      have G5 : IsKey wr k g r F := IsKey.later hk H5.out.1
      have R5 := H5.out.2.1
      refine wp_region_held_drew (S := fun w' => IsKey w' k g r F) (by kernel_rfl) ?_ (fun hHeld => ?_)
      · exact G5
      refine wpAnyH_take (i := 0) (v := ?_) rfl (by kernel_rfl) (by kernel_rfl) (by kernel_rfl) (fun _ _ _ h => h) (Or.inl ⟨by rfl, ?_⟩) (by assumption) ?_
      rotate_left
      · (intro w hSw; (have c0 := IsKey.tab hSw); (have c1 := IsKey.rounds hSw); clear hSw; simp only [List.getElem_toArray, List.getElem_cons_zero]; go_simp; try with_reducible rfl)
      simp only [Act.put, List.getElem_toArray, List.getElem_cons_zero, List.setIfInBounds_toArray, List.set_cons_zero, List.set_cons_succ]
      refine wpAnyH_take (i := 1) (v := ?_) rfl (by kernel_rfl) (by kernel_rfl) (by kernel_rfl) (fun _ _ _ h => h) (Or.inl ⟨by rfl, ?_⟩) (by assumption) ?_
      rotate_left
      · (intro w hSw; (have c0 := IsKey.tab hSw); (have c1 := IsKey.rounds hSw); clear hSw; simp only [List.getElem_toArray, List.getElem_cons_succ, List.getElem_cons_zero]; go_simp; try with_reducible rfl)
      simp only [Act.put, List.getElem_toArray, List.getElem_cons_succ, List.getElem_cons_zero, List.setIfInBounds_toArray, List.set_cons_zero, List.set_cons_succ]
      refine wpAnyH_take (i := 2) (v := ?_) rfl (by kernel_rfl) (by kernel_rfl) (by kernel_rfl) (fun _ _ _ h => h) (Or.inl ⟨by rfl, ?_⟩) (by assumption) ?_
      rotate_left
      · (intro w hSw; (have c0 := IsKey.tab hSw); (have c1 := IsKey.rounds hSw); clear hSw; simp only [List.getElem_toArray, List.getElem_cons_succ, List.getElem_cons_zero]; go_simp; try with_reducible rfl)
      simp only [Act.put, List.getElem_toArray, List.getElem_cons_succ, List.getElem_cons_zero, List.setIfInBounds_toArray, List.set_cons_zero, List.set_cons_succ]
      refine wpAnyH_take (i := 3) (v := ?_) rfl (by kernel_rfl) (by kernel_rfl) (by kernel_rfl) (fun _ _ _ h => h) (Or.inl ⟨by rfl, ?_⟩) (by assumption) ?_
      rotate_left
      · (intro w hSw; (have c0 := IsKey.tab hSw); (have c1 := IsKey.rounds hSw); clear hSw; simp only [List.getElem_toArray, List.getElem_cons_succ, List.getElem_cons_zero]; go_simp; try with_reducible rfl)
      simp only [Act.put, List.getElem_toArray, List.getElem_cons_succ, List.getElem_cons_zero, List.setIfInBounds_toArray, List.set_cons_zero, List.set_cons_succ]
      refine wpAnyH_take (i := 5) (v := ?_) rfl (by kernel_rfl) (by kernel_rfl) (by kernel_rfl) (fun _ _ _ h => h) (Or.inl ⟨by rfl, ?_⟩) (by assumption) ?_
      rotate_left
      · (intro w hSw; (have c0 := IsKey.tab hSw); (have c1 := IsKey.rounds hSw); clear hSw; simp only [List.getElem_toArray, List.getElem_cons_succ, List.getElem_cons_zero]; go_simp; try with_reducible rfl)
      simp only [Act.put, List.getElem_toArray, List.getElem_cons_succ, List.getElem_cons_zero, List.setIfInBounds_toArray, List.set_cons_zero, List.set_cons_succ]
      refine wpAnyH_take (i := 6) (v := ?_) rfl (by kernel_rfl) (by kernel_rfl) (by kernel_rfl) (fun _ _ _ h => h) (Or.inl ⟨by rfl, ?_⟩) (by assumption) ?_
      rotate_left
      · (intro w hSw; (have c0 := IsKey.tab hSw); (have c1 := IsKey.rounds hSw); clear hSw; simp only [List.getElem_toArray, List.getElem_cons_succ, List.getElem_cons_zero]; go_simp; try with_reducible rfl)
      simp only [Act.put, List.getElem_toArray, List.getElem_cons_succ, List.getElem_cons_zero, List.setIfInBounds_toArray, List.set_cons_zero, List.set_cons_succ]
      refine wpAnyH_take (i := 7) (v := ?_) rfl (by kernel_rfl) (by kernel_rfl) (by kernel_rfl) (fun _ _ _ h => h) (Or.inl ⟨by rfl, ?_⟩) (by assumption) ?_
      rotate_left
      · (intro w hSw; (have c0 := IsKey.tab hSw); (have c1 := IsKey.rounds hSw); clear hSw; simp only [List.getElem_toArray, List.getElem_cons_succ, List.getElem_cons_zero]; go_simp; try with_reducible rfl)
      simp only [Act.put, List.getElem_toArray, List.getElem_cons_succ, List.getElem_cons_zero, List.setIfInBounds_toArray, List.set_cons_zero, List.set_cons_succ]
      refine wpAnyH_take (i := 8) (v := ?_) rfl (by kernel_rfl) (by kernel_rfl) (by kernel_rfl) (fun _ _ _ h => h) (Or.inl ⟨by rfl, ?_⟩) (by assumption) ?_
      rotate_left
      · (intro w hSw; (have c0 := IsKey.tab hSw); (have c1 := IsKey.rounds hSw); clear hSw; simp only [List.getElem_toArray, List.getElem_cons_succ, List.getElem_cons_zero]; go_simp; try with_reducible rfl)
      simp only [Act.put, List.getElem_toArray, List.getElem_cons_succ, List.getElem_cons_zero, List.setIfInBounds_toArray, List.set_cons_zero, List.set_cons_succ]
      refine wpAnyH_take (i := 9) (v := ?_) rfl (by kernel_rfl) (by kernel_rfl) (by kernel_rfl) (fun _ _ _ h => h) (Or.inl ⟨by rfl, ?_⟩) (by assumption) ?_
      rotate_left
      · (intro w hSw; (have c0 := IsKey.tab hSw); (have c1 := IsKey.rounds hSw); clear hSw; simp only [List.getElem_toArray, List.getElem_cons_succ, List.getElem_cons_zero]; go_simp; try with_reducible rfl)
      simp only [Act.put, List.getElem_toArray, List.getElem_cons_succ, List.getElem_cons_zero, List.setIfInBounds_toArray, List.set_cons_zero, List.set_cons_succ]
      refine wpAnyH_take (i := 10) rfl (by kernel_rfl) (by kernel_rfl) (by kernel_rfl) (fun _ _ _ h => h) (yieldsIf_load_mid (by rfl) _ _ rfl _ _ rfl Ki _ (fun w hSw => hKi.out w hSw) Tryd.underlying31 rfl iKi) (by assumption) ?_
      simp only [Act.put, List.getElem_toArray, List.getElem_cons_succ, List.getElem_cons_zero, List.setIfInBounds_toArray, List.set_cons_zero, List.set_cons_succ]
      refine wpAnyH_ready (rs := [4]) (by kernel_rfl) (by simp) ?_
      refine AllReadyH.cons rfl (fun K hK => ?_) AllReadyH.nil
      rw [if_pos (by rfl)]
      refine wp_load_row 31 _ rfl w.heap.size rfl 31 A.toArray (0, 0) _ R5 Tryd.underlying31 rfl (by rw [sA]; rfl) (hK.out _ _ G5 (fun hHeld => ?_))
      clear hK K
      try simp only [Act.put, List.setIfInBounds_toArray, List.set_cons_zero, List.set_cons_succ]
      refine wpAnyH_ready (rs := [11]) (by kernel_rfl) (by simp) ?_
      refine AllReadyH.cons rfl (fun K hK => ?_) AllReadyH.nil
      simp only [List.getElem_toArray, List.getElem_cons_succ, List.getElem_cons_zero]
      go_simp
      refine (KU.out _ H5.out.1.drew).mono ?_
      rintro e v5 ⟨rfl, bc5⟩
      go_wp2_with fail
      refine hK.out _ _ ?_ (fun hHeld => ?_)
      · exact IsKey.later (w := wr.drew) G5 bc5
      clear hK K
      try simp only [Act.put, List.setIfInBounds_toArray, List.set_cons_zero, List.set_cons_succ]
      have B5 := below_two H5.out.1.drew bc5
      have RX5 := (bc5.block _ (Array.getElem?_eq_some_iff.1 H5.out.2.1).1).trans H5.out.2.1
      have RZ5 := (bc5.block _ (Array.getElem?_eq_some_iff.1 H5.out.2.2).1).trans H5.out.2.2
      have GK5 : IsKey (v5.setRow (w.heap.size) B.toArray) k g r F := IsKey.later hk (below_setRow B5 (by omega) _)
      refine wpAnyH_ready (rs := [12]) (by kernel_rfl) (by simp) ?_
      refine AllReadyH.cons rfl (fun K hK => ?_) AllReadyH.nil
      rw [if_pos (by rfl)]
      refine wp_store_row 31 _ _ rfl (w.heap.size) B.toArray rfl rfl 31 A.toArray RX5 (by rw [sB]; rfl) (by rw [sB, sA]) oB.out (hK.out _ _ GK5 (fun hHeld => ?_))
      clear hK K
      try simp only [Act.put, List.setIfInBounds_toArray, List.set_cons_zero, List.set_cons_succ]
      refine wpAnyH_done (by kernel_rfl) ?_ _
      have H6 : Hid (Below w.heap.size w (v5.setRow w.heap.size B.toArray) ∧ (v5.setRow w.heap.size B.toArray).heap[w.heap.size]? = some (.cells B.toArray 31 (0, 0)) ∧ (v5.setRow w.heap.size B.toArray).heap[w.heap.size + 1]? = some (.cells Z.toArray 31 (0, 0))) := ⟨below_setRow B5 (by omega) _, setRow_heap _ _ _ _ _ _ RX5, (setRow_other _ _ _ _ (by omega)).trans RZ5⟩
      obtain ⟨W6, hW6⟩ : ∃ W6, W6 = v5.setRow w.heap.size B.toArray := ⟨_, rfl⟩
      rw [← hW6] at H6 ⊢
      clear hW6 GK5 RX5 RZ5 B5 bc5 G5 R5 hHeld
      go_wp2_with fail
      go_roundw
      case rel =>
        refine ⟨n, j + 1, by have := HIJ.out; omega, by go_num, ?_⟩
        rw [← HB.out]
        exact H6
      case measure => simp [intOf]; omega
    · obtain rfl : i = 0 := by omega
      obtain rfl : j = q := by omega
      have cS := cS
      rw [show r - 1 = j by have := HQ.out; omega, ← hA] at cS
      clear hA cU hK cL
      go_wp2_with fail
      have G5 : IsKey wr k g r F := IsKey.later hk H5.out.1
      have R5 := H5.out.2.1
      refine wp_region_held_drew (S := fun w' => IsKey w' k g r F) (by kernel_rfl) ?_ (fun hHeld => ?_)
      · exact G5
      refine wpAnyH_take (i := 1) (v := ?_) rfl (by kernel_rfl) (by kernel_rfl) (by kernel_rfl) (fun _ _ _ h => h) (Or.inl ⟨by rfl, ?_⟩) (by assumption) ?_
      rotate_left
      · (intro w hSw; (have c0 := IsKey.tab hSw); (have c1 := IsKey.rounds hSw); clear hSw; simp only [List.getElem_toArray, List.getElem_cons_succ, List.getElem_cons_zero]; go_simp; try with_reducible rfl)
      simp only [Act.put, List.getElem_toArray, List.getElem_cons_succ, List.getElem_cons_zero, List.setIfInBounds_toArray, List.set_cons_zero, List.set_cons_succ]
      refine wpAnyH_take (i := 2) (v := ?_) rfl (by kernel_rfl) (by kernel_rfl) (by kernel_rfl) (fun _ _ _ h => h) (Or.inl ⟨by rfl, ?_⟩) (by assumption) ?_
      rotate_left
      · (intro w hSw; (have c0 := IsKey.tab hSw); (have c1 := IsKey.rounds hSw); clear hSw; simp only [List.getElem_toArray, List.getElem_cons_succ, List.getElem_cons_zero]; go_simp; try with_reducible rfl)
      simp only [Act.put, List.getElem_toArray, List.getElem_cons_succ, List.getElem_cons_zero, List.setIfInBounds_toArray, List.set_cons_zero, List.set_cons_succ]
      refine wpAnyH_take (i := 3) (v := ?_) rfl (by kernel_rfl) (by kernel_rfl) (by kernel_rfl) (fun _ _ _ h => h) (Or.inl ⟨by rfl, ?_⟩) (by assumption) ?_
      rotate_left
      · (intro w hSw; (have c0 := IsKey.tab hSw); (have c1 := IsKey.rounds hSw); clear hSw; simp only [List.getElem_toArray, List.getElem_cons_succ, List.getElem_cons_zero]; go_simp; try with_reducible rfl)
      simp only [Act.put, List.getElem_toArray, List.getElem_cons_succ, List.getElem_cons_zero, List.setIfInBounds_toArray, List.set_cons_zero, List.set_cons_succ]
      refine wpAnyH_take (i := 4) (v := ?_) rfl (by kernel_rfl) (by kernel_rfl) (by kernel_rfl) (fun _ _ _ h => h) (Or.inl ⟨by rfl, ?_⟩) (by assumption) ?_
      rotate_left
      · (intro w hSw; (have c0 := IsKey.tab hSw); (have c1 := IsKey.rounds hSw); clear hSw; simp only [List.getElem_toArray, List.getElem_cons_succ, List.getElem_cons_zero]; go_simp; try with_reducible rfl)
      simp only [Act.put, List.getElem_toArray, List.getElem_cons_succ, List.getElem_cons_zero, List.setIfInBounds_toArray, List.set_cons_zero, List.set_cons_succ]
      refine wpAnyH_take (i := 5) rfl (by kernel_rfl) (by kernel_rfl) (by kernel_rfl) (fun _ _ _ h => h) (yieldsIf_load_mid (by rfl) _ _ rfl _ _ rfl K0 _ (fun w hSw => hK0.out w hSw) Tryd.underlying31 rfl iK0) (by assumption) ?_
      simp only [Act.put, List.getElem_toArray, List.getElem_cons_succ, List.getElem_cons_zero, List.setIfInBounds_toArray, List.set_cons_zero, List.set_cons_succ]
      refine wpAnyH_ready (rs := [0]) (by kernel_rfl) (by simp) ?_
      refine AllReadyH.cons rfl (fun K hK => ?_) AllReadyH.nil
      rw [if_pos (by rfl)]
      refine wp_load_row 31 _ rfl w.heap.size rfl 31 A.toArray (0, 0) _ R5 Tryd.underlying31 rfl (by rw [sA]; rfl) (hK.out _ _ G5 (fun hHeld => ?_))
      clear hK K
      try simp only [Act.put, List.setIfInBounds_toArray, List.set_cons_zero, List.set_cons_succ]
      refine wpAnyH_ready (rs := [6]) (by kernel_rfl) (by simp) ?_
      refine AllReadyH.cons rfl (fun K hK => ?_) AllReadyH.nil
      simp only [List.getElem_toArray, List.getElem_cons_succ, List.getElem_cons_zero]
      go_simp
      refine (cS.out _).mono ?_
      rintro e v5 ⟨rfl, bc5⟩
      go_wp2_with fail
      refine hK.out _ _ ?_ (fun hHeld => ?_)
      · exact IsKey.later (w := wr.drew) G5 bc5
      clear hK K
      try simp only [Act.put, List.setIfInBounds_toArray, List.set_cons_zero, List.set_cons_succ]
      have B5 := below_two H5.out.1.drew bc5
      have RX5 := (bc5.block _ (Array.getElem?_eq_some_iff.1 H5.out.2.1).1).trans H5.out.2.1
      have RZ5 := (bc5.block _ (Array.getElem?_eq_some_iff.1 H5.out.2.2).1).trans H5.out.2.2
      have GK5 : IsKey (v5.setRow (w.heap.size + 1) X3.toArray) k g r F := IsKey.later hk (below_setRow B5 (by omega) _)
      refine wpAnyH_ready (rs := [7]) (by kernel_rfl) (by simp) ?_
      refine AllReadyH.cons rfl (fun K hK => ?_) AllReadyH.nil
      rw [if_pos (by rfl)]
      refine wp_store_row 31 _ _ rfl (w.heap.size + 1) X3.toArray rfl rfl 31 Z.toArray RZ5 (by rw [sX3]; rfl) (by rw [sX3, sZ]) oX3.out (hK.out _ _ GK5 (fun hHeld => ?_))
      clear hK K
      try simp only [Act.put, List.setIfInBounds_toArray, List.set_cons_zero, List.set_cons_succ]
      refine wpAnyH_done (by kernel_rfl) ?_ _
      go_wp2_with fail
      refine bodyPost_ret (v := .agg X3.toArray) (results_cell_row rfl _ _ (w.heap.size + 1) 31 X3.toArray (0, 0) _ rfl (setRow_heap _ _ _ _ _ _ RZ5) Tryd.underlying31 rfl (by rw [sX3]; rfl)) rfl ⟨rfl, ?_⟩
      exact below_setRow B5 (by omega) _
end Go.Proofs.YtlkihbmkekadeaaDoor
