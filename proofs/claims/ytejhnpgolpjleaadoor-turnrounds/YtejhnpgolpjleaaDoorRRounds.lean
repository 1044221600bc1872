/- Own: the contract of the reference's Rounds of layer 3 (no statement is proved here). -/
import Derived.Test.YtejhnpgolpjleaaDoorRAny
namespace Go.Proofs.YtejhnpgolpjleaaDoor
open Go.ChangeShapes Go.WideShapes Go.ChangeAt Go.RowKit

set_option linter.unusedSimpArgs false in
set_option maxRecDepth 100000 in
set_option maxHeartbeats 4000000 in
theorem rrounds_core (n cap : Nat) (a : Option Addr) (B : List Value) (F K : Nat → List Value) (w : World) (hB : B.length = 512) (hF : ∀ i, (F i).length = 16) (hK : ∀ i, (K i).length = 16) (oF : Hid (∀ i, (F i).toArray.all (·.oneCell') = true)) (hn : Hid (n ≤ 100))
    (hk : Hid (n = 0 ∨ ∃ b off : Nat, a = some ⟨b, off, none⟩ ∧ b < w.heap.size ∧ ∀ i, i < n → ∀ w', Below w.heap.size w w' → w'.rangeAt b (off + i * 16) (K i)))
    (cR : Hid (∀ i, i < n → ∀ w', Calls Tryd.prog 16 #[.agg B.toArray, .agg (F i).toArray, .agg (K i).toArray] w' fun e w'' => e = .returned (.agg (F (i + 1)).toArray) ∧ Below w'.heap.size w' w'')) :
    Calls Tryd.prog 24 #[.agg B.toArray, .agg (F 0).toArray, .slice a n cap] w fun e w' => e = .returned (.agg (F n).toArray) ∧ Below w.heap.size w w' := by
  obtain ⟨Z, hZ⟩ : ∃ Z, Z = bc 16 (fun _ => 0) := ⟨_, rfl⟩
  have hz := zero16
  rw [← hZ] at hz
  have hZl : Z.toArray.size = 16 := by rw [hZ, List.size_toArray, bc_len]
  clear hZ
  have iB : (Tryd.prog.info? 27).map (·.size) = some B.length := by rw [hB]; rfl
  obtain ⟨F0, hF0⟩ : ∃ F0, F0 = F 0 := ⟨_, rfl⟩
  rw [← hF0]
  have HF0 := hide hF0
  have HF := hide hF
  have HK := hide hK
  clear hF0 hF hK
  go_enter Tryd.func24, Tryd.ntmps24
  go_wp2
  clear hz
  go_loopw [7] (fun i wr => ∃ k : Nat, k ≤ n ∧ i = .int .i64 k ∧ Hid (Below w.heap.size w wr ∧ wr.heap[w.heap.size]? = some (.cells B.toArray 27 (0, 0)) ∧ wr.heap[w.heap.size + 1]? = some (.cells (F k).toArray 22 (0, 0)) ∧ wr.heap[w.heap.size + 1 + 1]? = some (.cells Z.toArray 22 (0, 0)))) (fun i _ => n - (intOf i).toNat)
  case atStart =>
    have h := three_new w B.toArray F0.toArray Z.toArray 27 22 22
    refine ⟨0, by omega, rfl, h.1, h.2.1, ?_, h.2.2.2⟩
    rw [← HF0.out]; exact h.2.2.1
  case round =>
    obtain ⟨k, hkn, rfl, HR⟩ := hrel
    by_cases hlt : k < n
    · obtain ⟨b, off, rfl, hbw, hrow⟩ : ∃ b off : Nat, a = some ⟨b, off, none⟩ ∧ b < w.heap.size ∧ ∀ i, i < n → ∀ w', Below w.heap.size w w' → w'.rangeAt b (off + i * 16) (K i) := hk.out.resolve_left (by omega)
      have r1 := hide (hrow k hlt wr HR.out.1)
      obtain ⟨A, hA⟩ : ∃ A, A = K k := ⟨_, rfl⟩
      obtain ⟨D, hD⟩ : ∃ D, D = F k := ⟨_, rfl⟩
      obtain ⟨C, hC⟩ : ∃ C, C = F (k + 1) := ⟨_, rfl⟩
      have lA : A.length = 16 := by rw [hA]; exact HK.out k
      have lD : D.length = 16 := by rw [hD]; exact HF.out k
      have sD : D.toArray.size = 16 := by rw [List.size_toArray]; exact lD
      have sC : C.toArray.size = 16 := by rw [List.size_toArray, hC]; exact HF.out (k + 1)
      have oC : Hid (C.toArray.all (·.oneCell') = true) := by rw [hC]; exact oF.out (k + 1)
      have iA : (Tryd.prog.info? 22).map (·.size) = some A.length := by rw [lA]; rfl
      have iD : (Tryd.prog.info? 22).map (·.size) = some D.length := by rw [lD]; rfl
      have K1 := hide (cR.out k hlt)
      rw [← hA, ← hD, ← hC] at K1
      rw [← hA] at r1
      have hRD := HR.out.2.2.1
      rw [← hD] at hRD
      have RD := hide hRD
      have rD : Hid (wr.rangeAt (w.heap.size + 1) 0 D) := fun j v hj => by
        rw [Nat.zero_add, cell_of_row wr _ _ _ _ _ RD.out]; simpa using hj
      have rB : Hid (wr.rangeAt w.heap.size 0 B) := fun j v hj => by
        rw [Nat.zero_add, cell_of_row wr _ _ _ _ _ HR.out.2.1]; simpa using hj
      have i1 : (k : Int) < n := by omega
      have i3 : k < 100 := by have := hn.out; omega
      have HC := hide hC
      clear hA hD hC lA lD hRD hrow
      go_wp2_with fail
      refine wp_region_held_drew (S := fun w' => w'.rangeAt w.heap.size 0 B ∧ w'.rangeAt b (off + k * 16) A) (by kernel_rfl) ?_ (fun hHeld => ?_)
      · exact ⟨rB.out, r1.out⟩
      refine wpAnyH_take (i := 0) rfl (by kernel_rfl) (by kernel_rfl) (by kernel_rfl) (fun _ _ _ h => h) (yieldsIf_load_mid (by rfl) _ _ rfl _ _ rfl B _ (fun w hSw => hSw.1) Tryd.underlying27 rfl iB) (by assumption) ?_
      simp only [Act.put, List.getElem_toArray, List.getElem_cons_zero, List.setIfInBounds_toArray, List.set_cons_zero, List.set_cons_succ]
      refine wpAnyH_take (i := 2) (v := ?_) rfl (by kernel_rfl) (by kernel_rfl) (by kernel_rfl) (fun _ _ _ h => h) (Or.inl ⟨by rfl, ?_⟩) (by assumption) ?_
      rotate_left
      · (intro w hSw; (try dsimp only at hSw); simp only [List.getElem_toArray, List.getElem_cons_succ, List.getElem_cons_zero]; go_simp; try with_reducible rfl)
      simp only [Act.put, List.getElem_toArray, List.getElem_cons_succ, List.getElem_cons_zero, List.setIfInBounds_toArray, List.set_cons_zero, List.set_cons_succ]
      refine wpAnyH_take (i := 3) (v := ?_) rfl (by kernel_rfl) (by kernel_rfl) (by kernel_rfl) (fun _ _ _ h => h) (Or.inl ⟨by rfl, ?_⟩) (by assumption) ?_
      rotate_left
      · (intro w hSw; (try dsimp only at hSw); simp only [List.getElem_toArray, List.getElem_cons_succ, List.getElem_cons_zero]; go_simp; try with_reducible rfl)
      simp only [Act.put, List.getElem_toArray, List.getElem_cons_succ, List.getElem_cons_zero, List.setIfInBounds_toArray, List.set_cons_zero, List.set_cons_succ]
      refine wpAnyH_take (i := 4) (v := ?_) rfl (by kernel_rfl) (by kernel_rfl) (by kernel_rfl) (fun _ _ _ h => h) (Or.inl ⟨by rfl, ?_⟩) (by assumption) ?_
      rotate_left
      · (intro w hSw; (try dsimp only at hSw); simp only [List.getElem_toArray, List.getElem_cons_succ, List.getElem_cons_zero]; go_simp; try with_reducible rfl)
      simp only [Act.put, List.getElem_toArray, List.getElem_cons_succ, List.getElem_cons_zero, List.setIfInBounds_toArray, List.set_cons_zero, List.set_cons_succ]
      refine wpAnyH_take (i := 5) rfl (by kernel_rfl) (by kernel_rfl) (by kernel_rfl) (fun _ _ _ h => h) (yieldsIf_load_mid (by rfl) _ _ rfl _ _ rfl A _ (fun w hSw => hSw.2) Tryd.underlying22 rfl iA) (by assumption) ?_
      simp only [Act.put, List.getElem_toArray, List.getElem_cons_succ, List.getElem_cons_zero, List.setIfInBounds_toArray, List.set_cons_zero, List.set_cons_succ]
      refine wpAnyH_ready (rs := [1]) (by kernel_rfl) (by simp) ?_
      refine AllReadyH.cons rfl (fun K hK => ?_) AllReadyH.nil
      rw [if_pos (by rfl)]
      simp only [List.getElem_toArray, List.getElem_cons_succ, List.getElem_cons_zero]
      refine wp_load_mid 22 _ rfl (w.heap.size + 1) 0 rfl D _ rD.out Tryd.underlying22 rfl iD (hK.out _ _ hHeld (fun hHeld => ?_))
      clear hK K
      try simp only [Act.put, List.setIfInBounds_toArray, List.set_cons_zero, List.set_cons_succ]
      refine wpAnyH_ready (rs := [6]) (by kernel_rfl) (by simp) ?_
      refine AllReadyH.cons rfl (fun K hK => ?_) AllReadyH.nil
      simp only [List.getElem_toArray, List.getElem_cons_succ, List.getElem_cons_zero]
      go_simp
      refine (K1.out _).mono ?_
      rintro e w9 ⟨rfl, b9⟩
      go_wp2_with fail
      refine hK.out _ _ ?_ (fun hHeld => ?_)
      · exact ⟨fun j v hj => Go.Proofs.YtejhnpgolpjleaaDoor.later b9 (hHeld.1 j v hj), fun j v hj => Go.Proofs.YtejhnpgolpjleaaDoor.later b9 (hHeld.2 j v hj)⟩
      clear hK K
      try simp only [Act.put, List.setIfInBounds_toArray, List.set_cons_zero, List.set_cons_succ]
      have R9 : w9.heap[w.heap.size + 1]? = some (.cells D.toArray 22 (0, 0)) := (b9.block _ (Array.getElem?_eq_some_iff.1 RD.out).1).trans RD.out
      have HR9 := hide R9
      have B9 := hide b9
      refine wpAnyH_ready (rs := [7]) (by kernel_rfl) (by simp) ?_
      refine AllReadyH.cons rfl (fun K hK => ?_) AllReadyH.nil
      rw [if_pos (by rfl)]
      simp only [List.getElem_toArray, List.getElem_cons_succ, List.getElem_cons_zero]
      refine wp_store_row 22 _ _ rfl (w.heap.size + 1) C.toArray rfl rfl 22 D.toArray R9 (by rw [sC]; rfl) (by rw [sC, sD]) oC.out (hK.out _ _ ⟨range_setRow hHeld.1 (by omega) _, range_setRow hHeld.2 (by omega) _⟩ (fun hHeld => ?_))
      clear hK K
      try simp only [Act.put, List.setIfInBounds_toArray, List.set_cons_zero, List.set_cons_succ]
      refine wpAnyH_done (by kernel_rfl) ?_ _
      go_wp2
      go_roundw
      case rel =>
        refine ⟨k + 1, by omega, by go_num, below_setRow (below_two HR.out.1.drew B9.out) (by omega) _, ?_, ?_, ?_⟩
        · exact (setRow_other _ _ _ _ (by omega)).trans ((B9.out.block _ (Array.getElem?_eq_some_iff.1 HR.out.2.1).1).trans HR.out.2.1)
        · rw [← HC.out]; exact setRow_heap _ _ _ _ _ _ HR9.out
        · exact (setRow_other _ _ _ _ (by omega)).trans ((B9.out.block _ (Array.getElem?_eq_some_iff.1 HR.out.2.2.2).1).trans HR.out.2.2.2)
      case measure => simp [intOf]; omega
    · obtain rfl : k = n := by omega
      obtain ⟨V, hV⟩ : ∃ V, V = (F k).toArray := ⟨_, rfl⟩
      have hVl : V.size = 16 := by rw [hV, List.size_toArray, HF.out]
      have hV1 : Hid (V.all (·.oneCell') = true) := by rw [hV]; exact oF.out k
      have HV := hide hV
      have R2 : Hid (wr.heap[w.heap.size + 1]? = some (.cells V 22 (0, 0))) := by rw [hV]; exact HR.out.2.2.1
      have R1 := hide HR.out.2.2.2
      clear hV
      go_wp2_with (first
        | (refine wpList_load_row rfl 22 _ rfl (w.heap.size + 1) rfl 22 V (0, 0) _ R2.out Tryd.underlying22 rfl (by rw [hVl]; rfl) ?_)
        | (refine wpList_store_row rfl 22 _ _ rfl (w.heap.size + 1 + 1) V rfl rfl 22 Z.toArray R1.out (by rw [hVl]; rfl) (by rw [hZl, hVl]) hV1.out ?_))
      refine bodyPost_ret (v := .agg V) (results_cell_row rfl _ _ (w.heap.size + 1 + 1) 22 V (0, 0) _ rfl (setRow_heap _ _ _ _ _ _ R1.out) Tryd.underlying22 rfl (by rw [hVl]; rfl)) rfl ⟨by rw [HV.out], ?_⟩
      exact below_setRow HR.out.1 (by omega) _
theorem rrounds_any (n : Nat) (v : Value) (f : Nat → Nat) (ks : Nat → Nat → Nat) (hf : Byt f) (h1 : n ≤ 100) (w : World) (hk : IsK w v n ks) :
    Calls Tryd.prog 24 #[boxV, blkV f, v] w fun e w' => e = .returned (blkV (rnds f ks n)) ∧ Below w.heap.size w w' := by
  obtain ⟨h0, a, cap, rfl, h2⟩ := hk
  refine rrounds_core n cap a (bc 256 sbox ++ bc 256 isb) (fun i => bc 16 (rnds f ks i)) (fun i => bc 16 (ks i)) w (by rw [List.length_append, bc_len, bc_len]) (fun i => bc_len _ _) (fun i => bc_len _ _) (fun i => bc_one _ _) h1 ?_ (fun i _ w' => rround_any (rnds f ks i) (ks i) (rnds_byt hf h0 i) (h0 i) w')
  by_cases hn : n = 0
  · exact .inl hn
  · rcases h2 with h2 | ⟨b, off, ea, hc⟩
    · exact .inl h2
    · refine .inr ⟨b, off, ea, ?_, fun i hi w' hb j u hj => Go.Proofs.YtejhnpgolpjleaaDoor.later hb (hc i hi j u hj)⟩
      exact World.block_lt_of_cell? _ _ (hc 0 (by omega) 0 _ (bc_get 16 (ks 0) 0 (by decide)))
end Go.Proofs.YtejhnpgolpjleaaDoor
