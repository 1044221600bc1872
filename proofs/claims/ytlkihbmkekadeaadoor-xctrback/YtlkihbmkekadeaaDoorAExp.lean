/- Own: the contract of expanded of layer 4 (no statement is proved here). -/
import Derived.Test.YtlkihbmkekadeaaDoorAKey
namespace Go.Proofs.YtlkihbmkekadeaaDoor
open Go.ChangeShapes Go.WideShapes Go.ChangeAt Go.RowKit
set_option maxRecDepth 20000

theorem zero240 (w : World) : (zeroValue 73).run Tryd.prog w = .ok (.agg (bc 240 fun _ => 0).toArray) w := by kernel_rfl
set_option linter.unusedSimpArgs false in
set_option maxRecDepth 100000 in
set_option maxHeartbeats 4000000 in
theorem expanded_core (v0 : Value) (a : Option Addr) (len cap n many : Nat) (kf : Nat → Nat) (E ch nw : Nat → Nat → Nat) (wk xa xb xc : Nat → Nat) (w : World) (hn : n = 4 ∨ n = 6 ∨ n = 8) (hlen : len = 4 * n) (hmany : n < many) (hm60 : many ≤ 60)
    (hE0 : Hid (bc 240 (upto (4 * n) kf) = bc 240 (E 0)))
    (hE : Hid (∀ k, n + k < many → (bc 240 fun j => if 4 * (n + k) ≤ j ∧ j < 4 * (n + k) + 4 then nw k (j - 4 * (n + k)) else E k j) = bc 240 (E (k + 1))))
    (cW : Hid (∀ i, i < n → ∀ w', Below w.heap.size w w' → Calls Tryd.prog 58 #[.slice a len cap, .int .i64 ((4 * i : Nat) : Int)] w' fun e w'' => e = .returned (.int .u32 (wk i : Nat)) ∧ Below w'.heap.size w' w''))
    (cP : Hid (∀ i, i < n → ∀ w', Calls Tryd.prog 53 #[.int .u32 (wk i : Nat)] w' fun e w'' => e = .returned (.agg (bc 4 fun r => kf (4 * i + r)).toArray) ∧ Below w'.heap.size w' w''))
    (cC : Hid (∀ k, n + k < many → ∀ w', Below w.heap.size w w' → Calls Tryd.prog 59 #[v0, .agg (bc 4 fun r => E k (4 * (n + k) - 4 + r)).toArray, .int .i64 ((n + k : Nat) : Int), .int .i64 (n : Nat)] w' fun e w'' => e = .returned (.agg (bc 4 (ch k)).toArray) ∧ Below w'.heap.size w' w''))
    (cA : Hid (∀ k, n + k < many → ∀ w' b o, w'.rangeAt b o (bc 4 fun r => E k (4 * k + r)) → Calls Tryd.prog 58 #[.slice (some ⟨b, o, none⟩) 4 4, .int .i64 0] w' fun e w'' => e = .returned (.int .u32 (xa k : Nat)) ∧ Below w'.heap.size w' w''))
    (cB : Hid (∀ k, n + k < many → ∀ w' b o, w'.rangeAt b o (bc 4 (ch k)) → Calls Tryd.prog 58 #[.slice (some ⟨b, o, none⟩) 4 4, .int .i64 0] w' fun e w'' => e = .returned (.int .u32 (xb k : Nat)) ∧ Below w'.heap.size w' w''))
    (hx : Hid (∀ k, n + k < many → bits .xor .u32 (xa k : Nat) (xb k : Nat) = ((xc k : Nat) : Int)))
    (cX : Hid (∀ k, n + k < many → ∀ w', Calls Tryd.prog 53 #[.int .u32 (xc k : Nat)] w' fun e w'' => e = .returned (.agg (bc 4 (nw k)).toArray) ∧ Below w'.heap.size w' w'')) :
    Calls Tryd.prog 37 #[v0, .slice a len cap, .int .i64 (many : Nat)] w fun e w' => e = .returned (.agg (bc 240 (E (many - n))).toArray) ∧ Below w.heap.size w w' := by
  obtain ⟨Z, hZ⟩ : ∃ Z, Z = bc 240 (fun _ => 0) := ⟨_, rfl⟩
  have hz := zero240
  rw [← hZ] at hz
  have hZl : Z.toArray.size = 240 := by rw [hZ, List.size_toArray, bc_len]
  have HZ := hide hZ
  have hn8 : n ≤ 8 := by omega
  have hl4 : (len : Int) / 4 = (n : Int) := by omega
  have HLEN := hide hlen
  have HN := hide hn
  have HMANY := hide hmany
  have h4n : 4 ≤ n := by omega
  clear hZ hlen hn hmany
  go_enter Tryd.func37, Tryd.ntmps37
  go_wp2
  refine wp_scope_jumps 0 (fun a' w' => ∃ (k t : Nat) (u9 u11 u16 u17 u18 u19 u20 u21 u22 u23 u24 u25 u26 u27 u28 u29 u30 u31 u32 u33 u34 u35 u36 u37 u38 u39 u40 u41 u42 u43 u44 u45 u46 u47 u48 u49 u50 u51 u52 u53 : Value), n + k < many ∧ t = n + k ∧ a' = { tmps := #[v0, .slice a len cap, .int .i64 (many : Nat), undef, undef, undef, .pointer (some ⟨w.heap.size, 0, none⟩), .pointer (some ⟨w.heap.size + 1, 0, none⟩), .int .i64 (n : Nat), u9, .int .i64 (t : Nat), u11, .slice a len cap, .int .i64 (len : Nat), .int .i64 (n : Nat), .int .i64 (n : Nat), u16, u17, u18, u19, u20, u21, u22, u23, u24, u25, u26, u27, u28, u29, u30, u31, u32, u33, u34, u35, u36, u37, u38, u39, u40, u41, u42, u43, u44, u45, u46, u47, u48, u49, u50, u51, u52, u53], defers := [] } ∧ Hid (Below w.heap.size w w' ∧ w'.heap[w.heap.size]? = some (.cells Z.toArray 73 (0, 0)) ∧ w'.heap[w.heap.size + 1]? = some (.cells (bc 240 (E k)).toArray 73 (0, 0)))) (fun a' _ => many - (intOf (a'.tmps.getD 10 undef)).toNat) rfl ?_ ?_
  case refine_2 =>
    rintro a' w' ⟨k, t, u9, u11, u16, u17, u18, u19, u20, u21, u22, u23, u24, u25, u26, u27, u28, u29, u30, u31, u32, u33, u34, u35, u36, u37, u38, u39, u40, u41, u42, u43, u44, u45, u46, u47, u48, u49, u50, u51, u52, u53, hkm, htk, rfl, HS⟩
    have HT0 : n + k < many := hkm
    obtain ⟨P, hP⟩ : ∃ P, P = bc 4 (fun r => E k (4 * (n + k) - 4 + r)) := ⟨_, rfl⟩
    obtain ⟨C, hC⟩ : ∃ C, C = bc 4 (ch k) := ⟨_, rfl⟩
    obtain ⟨D, hD⟩ : ∃ D, D = bc 4 (nw k) := ⟨_, rfl⟩
    have lP : P.length = 4 := by rw [hP]; exact bc_len _ _
    have iP : (Tryd.prog.info? 71).map (·.size) = some P.length := by rw [lP]; rfl
    have sC : C.toArray.size = 4 := by rw [hC, List.size_toArray, bc_len]
    have oC : Hid (C.toArray.all (·.oneCell') = true) := by rw [hC]; exact bc_one _ _
    have sD : D.toArray.size = 4 := by rw [hD, List.size_toArray, bc_len]
    have oD : Hid (D.toArray.all (·.oneCell') = true) := by rw [hD]; exact bc_one _ _
    have K1 := hide (cC.out k HT0 w' HS.out.1)
    have K2 := hide (cA.out k HT0)
    have K3 := hide (cB.out k HT0)
    have hxx := hx.out k HT0
    have K4 := hide (cX.out k HT0)
    rw [← hP, ← hC] at K1
    rw [← hC] at K3
    rw [← hD] at K4
    have HD := hide hD
    generalize xa k = ya at K2 hxx
    generalize xb k = yb at K3 hxx
    generalize xc k = yc at hxx K4
    rw [← htk] at K1
    have rP : Hid (w'.rangeAt (w.heap.size + 1) ((t - 1) * 4) P) := by
      rw [hP]
      have := range_mid (o := 4 * (n + k) - 4) (m := 4) HS.out.2.2 (by omega)
      rw [show (t - 1) * 4 = 4 * (n + k) - 4 by omega]
      exact this
    have rQ : Hid (w'.rangeAt (w.heap.size + 1) (k * 4) (bc 4 fun r => E k (4 * k + r))) := by
      have := range_mid (o := 4 * k) (m := 4) HS.out.2.2 (by omega)
      rw [show k * 4 = 4 * k by omega]
      exact this
    have hlo : w.heap.size + 1 < w'.heap.size := (Array.getElem?_eq_some_iff.1 HS.out.2.2).1
    have w2 : IntKind.i64.wrap ((t : Int) - (n : Int)) = (k : Int) := by rw [IntKind.wrap_i64]; omega
    have i2 : (k : Int) < 60 := by omega
    have i3 : (t : Int) < 60 := by omega
    have i4 : t < 60 := by omega
    have i5 : 4 ≤ t := by omega
    have hz4 := zero4
    obtain ⟨Z4, hZ4⟩ : ∃ Z4, Z4 = bc 4 (fun _ => 0) := ⟨_, rfl⟩
    rw [← hZ4] at hz4
    have sZ4 : Z4.toArray.size = 4 := by rw [hZ4, List.size_toArray, bc_len]
    clear hP hC hD hZ4 lP
    have HTK := hide htk
    have HKM := hide hkm
    clear htk hkm
    go_wp2_with (refine wpList_load_mid rfl 71 _ rfl (w.heap.size + 1) ((t - 1) * 4) rfl P _ rP.out Tryd.underlying71 rfl iP ?_)
    refine (K1.out).mono ?_
    rintro e w3 ⟨rfl, b3⟩
    obtain ⟨nb, nr⟩ := new_row w3 Z4.toArray C.toArray 71
    have b4 := below_two b3 nb
    have NR := hide nr
    have B4 := hide b4
    have RQ := hide (fun j v (hj : (bc 4 fun r => E k (4 * k + r))[j]? = some v) => Go.Proofs.YtlkihbmkekadeaaDoor.later b4 (rQ.out j v hj))
    clear b3 b4 nb nr K1 rQ rP
    go_wp2_with (refine wpList_store_row rfl 71 _ _ rfl w3.heap.size C.toArray rfl rfl 71 _ (heap_alloc_new _ _) (by rw [sC]; rfl) (by rw [sC, sZ4]) oC.out ?_)
    have RH := hide ((B4.out.block _ (Array.getElem?_eq_some_iff.1 HS.out.2.2).1).trans HS.out.2.2)
    have RZ := hide ((B4.out.block _ (Array.getElem?_eq_some_iff.1 HS.out.2.1).1).trans HS.out.2.1)
    have BW := hide (below_two HS.out.1 B4.out)
    obtain ⟨g3, hg3⟩ : ∃ g3, g3 = w3.heap.size := ⟨_, rfl⟩
    obtain ⟨W5, hW5⟩ : ∃ W5, W5 = (w3.alloc (.cells Z4.toArray 71)).setRow w3.heap.size C.toArray := ⟨_, rfl⟩
    rw [← hW5] at NR RQ RH RZ BW ⊢
    rw [← hg3] at NR ⊢
    clear hW5 hg3 B4 HS hz4
    have hwz : IntKind.i64.wrap 0 = 0 := rfl
    refine wp_region_held_drew (S := fun _ => True) (by kernel_rfl) trivial (fun hHeld => ?_)
    refine wpAnyH_take (i := 0) (v := ?_) rfl (by kernel_rfl) (by kernel_rfl) (by kernel_rfl) (fun _ _ _ h => h) (Or.inl ⟨by rfl, ?_⟩) (by assumption) ?_
    rotate_left
    · (intro w hSw; (try dsimp only at hSw); simp only [List.getElem_toArray, List.getElem_cons_zero]; go_simp; try with_reducible rfl)
    simp only [Act.put, List.getElem_toArray, List.getElem_cons_zero, List.setIfInBounds_toArray, List.set_cons_zero, List.set_cons_succ]
    refine wpAnyH_take (i := 1) (v := ?_) rfl (by kernel_rfl) (by kernel_rfl) (by kernel_rfl) (fun _ _ _ h => h) (Or.inl ⟨by rfl, ?_⟩) (by assumption) ?_
    rotate_left
    · (intro w hSw; (try dsimp only at hSw); simp only [List.getElem_toArray, List.getElem_cons_succ, List.getElem_cons_zero]; go_simp; try with_reducible rfl)
    simp only [Act.put, List.getElem_toArray, List.getElem_cons_succ, List.getElem_cons_zero, List.setIfInBounds_toArray, List.set_cons_zero, List.set_cons_succ]
    refine wpAnyH_take (i := 2) (v := ?_) rfl (by kernel_rfl) (by kernel_rfl) (by kernel_rfl) (fun _ _ _ h => h) (Or.inl ⟨by rfl, ?_⟩) (by assumption) ?_
    rotate_left
    · (intro w hSw; (try dsimp only at hSw); simp only [List.getElem_toArray, List.getElem_cons_succ, List.getElem_cons_zero]; go_simp; try with_reducible rfl)
    simp only [Act.put, List.getElem_toArray, List.getElem_cons_succ, List.getElem_cons_zero, List.setIfInBounds_toArray, List.set_cons_zero, List.set_cons_succ]
    refine wpAnyH_take (i := 3) (v := ?_) rfl (by kernel_rfl) (by kernel_rfl) (by kernel_rfl) (fun _ _ _ h => h) (Or.inl ⟨by rfl, ?_⟩) (by assumption) ?_
    rotate_left
    · (intro w hSw; (try dsimp only at hSw); simp only [List.getElem_toArray, List.getElem_cons_succ, List.getElem_cons_zero]; go_simp; try with_reducible rfl)
    simp only [Act.put, List.getElem_toArray, List.getElem_cons_succ, List.getElem_cons_zero, List.setIfInBounds_toArray, List.set_cons_zero, List.set_cons_succ]
    refine wpAnyH_take (i := 4) (v := ?_) rfl (by kernel_rfl) (by kernel_rfl) (by kernel_rfl) (fun _ _ _ h => h) (Or.inl ⟨by rfl, ?_⟩) (by assumption) ?_
    rotate_left
    · (intro w hSw; (try dsimp only at hSw); simp only [List.getElem_toArray, List.getElem_cons_succ, List.getElem_cons_zero]; go_simp; try with_reducible rfl)
    simp only [Act.put, List.getElem_toArray, List.getElem_cons_succ, List.getElem_cons_zero, List.setIfInBounds_toArray, List.set_cons_zero, List.set_cons_succ]
    refine wpAnyH_take (i := 5) (v := ?_) rfl (by kernel_rfl) (by kernel_rfl) (by kernel_rfl) (fun _ _ _ h => h) (Or.inl ⟨by rfl, ?_⟩) (by assumption) ?_
    rotate_left
    · (intro w hSw; (try dsimp only at hSw); simp only [List.getElem_toArray, List.getElem_cons_succ, List.getElem_cons_zero]; go_simp; try with_reducible rfl)
    simp only [Act.put, List.getElem_toArray, List.getElem_cons_succ, List.getElem_cons_zero, List.setIfInBounds_toArray, List.set_cons_zero, List.set_cons_succ]
    refine wpAnyH_take (i := 7) (v := ?_) rfl (by kernel_rfl) (by kernel_rfl) (by kernel_rfl) (fun _ _ _ h => h) (Or.inl ⟨by rfl, ?_⟩) (by assumption) ?_
    rotate_left
    · (intro w hSw; (try dsimp only at hSw); simp only [List.getElem_toArray, List.getElem_cons_succ, List.getElem_cons_zero]; go_simp; try with_reducible rfl)
    simp only [Act.put, List.getElem_toArray, List.getElem_cons_succ, List.getElem_cons_zero, List.setIfInBounds_toArray, List.set_cons_zero, List.set_cons_succ]
    refine wpAnyH_ready (rs := [6]) (by kernel_rfl) (by simp) ?_
    refine AllReadyH.cons rfl (fun K hK => ?_) AllReadyH.nil
    simp only [List.getElem_toArray, List.getElem_cons_succ, List.getElem_cons_zero]
    go_simp
    refine (K2.out W5.drew _ _ RQ.out).mono ?_
    rintro e w6 ⟨rfl, b6⟩
    go_wp2_with fail
    refine hK.out _ _ ?_ (fun hHeld => ?_)
    · trivial
    clear hK K
    try simp only [Act.put, List.setIfInBounds_toArray, List.set_cons_zero, List.set_cons_succ]
    refine wpAnyH_ready (rs := [8]) (by kernel_rfl) (by simp) ?_
    refine AllReadyH.cons rfl (fun K hK => ?_) AllReadyH.nil
    simp only [List.getElem_toArray, List.getElem_cons_succ, List.getElem_cons_zero]
    go_simp
    refine (K3.out _ g3 0 ?hr8).mono ?_
    case hr8 =>
      intro j v hj
      refine Go.Proofs.YtlkihbmkekadeaaDoor.later b6 ?_
      show W5.cell? _ = _
      rw [Nat.zero_add, cell_of_row _ g3 _ _ _ _ NR.out]; simpa using hj
    rintro e w7 ⟨rfl, b7⟩
    go_wp2_with fail
    refine hK.out _ _ ?_ (fun hHeld => ?_)
    · trivial
    clear hK K
    try simp only [Act.put, List.setIfInBounds_toArray, List.set_cons_zero, List.set_cons_succ]
    refine wpAnyH_take (i := 9) (v := ?_) rfl (by kernel_rfl) (by kernel_rfl) (by kernel_rfl) (fun _ _ _ h => h) (Or.inl ⟨by rfl, ?_⟩) (by assumption) ?_
    rotate_left
    · (intro w hSw; (try dsimp only at hSw); simp only [List.getElem_toArray, List.getElem_cons_succ, List.getElem_cons_zero]; go_simp; try with_reducible rfl)
    simp only [Act.put, List.getElem_toArray, List.getElem_cons_succ, List.getElem_cons_zero, List.setIfInBounds_toArray, List.set_cons_zero, List.set_cons_succ]
    refine wpAnyH_ready (rs := [10]) (by kernel_rfl) (by simp) ?_
    refine AllReadyH.cons rfl (fun K hK => ?_) AllReadyH.nil
    simp only [List.getElem_toArray, List.getElem_cons_succ, List.getElem_cons_zero]
    go_simp
    refine (K4.out _).mono ?_
    rintro e w8 ⟨rfl, b8⟩
    go_wp2_with fail
    refine hK.out _ _ ?_ (fun hHeld => ?_)
    · trivial
    clear hK K
    try simp only [Act.put, List.setIfInBounds_toArray, List.set_cons_zero, List.set_cons_succ]
    refine wpAnyH_take (i := 11) (v := ?_) rfl (by kernel_rfl) (by kernel_rfl) (by kernel_rfl) (fun _ _ _ h => h) (Or.inl ⟨by rfl, ?_⟩) (by assumption) ?_
    rotate_left
    · (intro w hSw; (try dsimp only at hSw); simp only [List.getElem_toArray, List.getElem_cons_succ, List.getElem_cons_zero]; go_simp; try with_reducible rfl)
    simp only [Act.put, List.getElem_toArray, List.getElem_cons_succ, List.getElem_cons_zero, List.setIfInBounds_toArray, List.set_cons_zero, List.set_cons_succ]
    have b678 := below_two (below_two b6 b7) b8
    have RH8 := (b678.block _ (Array.getElem?_eq_some_iff.1 RH.out).1).trans RH.out
    have RZ8 := hide ((b678.block _ (Array.getElem?_eq_some_iff.1 RZ.out).1).trans RZ.out)
    have BW8 := hide (below_two BW.out.drew b678)
    refine wpAnyH_ready (rs := [12]) (by kernel_rfl) (by simp) ?_
    refine AllReadyH.cons rfl (fun K hK => ?_) AllReadyH.nil
    rw [if_pos (by rfl)]
    refine wp_store_mid 71 _ _ rfl (w.heap.size + 1) (t * 4) D.toArray rfl rfl (by rw [sD]; exact there_row RH8 (by rw [bc_len]; omega)) (by rw [sD]; rfl) oD.out (hK.out _ _ trivial (fun hHeld => ?_))
    clear hK K
    try simp only [Act.put, List.setIfInBounds_toArray, List.set_cons_zero, List.set_cons_succ]
    refine wpAnyH_done (by kernel_rfl) ?_ _
    have HF : Hid (Below w.heap.size w (w8.setCells (w.heap.size + 1) (t * 4) D.toArray.toList) ∧ (w8.setCells (w.heap.size + 1) (t * 4) D.toArray.toList).heap[w.heap.size]? = some (.cells Z.toArray 73 (0, 0)) ∧ (w8.setCells (w.heap.size + 1) (t * 4) D.toArray.toList).heap[w.heap.size + 1]? = some (.cells (bc 240 (E (k + 1))).toArray 73 (0, 0))) := by
      refine ⟨setCells_below _ _ (by omega) _ _ _ _ BW8.out, (setCells_heap _ _ (by omega) _ _ _).trans RZ8.out, ?_⟩
      have h := setCells_row (w.heap.size + 1) 73 D (t * 4) w8 _ RH8
      rw [HD.out, setL_bc] at h
      rw [← hE.out k (by have := HKM.out; omega)]
      show (w8.setCells (w.heap.size + 1) (t * 4) D).heap[w.heap.size + 1]? = _
      rw [HD.out, h]
      have htk := HTK.out
      rw [show t * 4 = 4 * (n + k) by omega]
    obtain ⟨W9, hW9⟩ : ∃ W9, W9 = w8.setCells (w.heap.size + 1) (t * 4) D.toArray.toList := ⟨_, rfl⟩
    rw [← hW9] at HF ⊢
    clear hW9 RH8 RZ8 BW8 b678 b6 b7 b8 RQ RH RZ BW NR K2 K3 K4 hxx
    by_cases hjj : t + 1 < many
    · have hj : decide (((t : Nat) : Int) + 1 < (many : Int)) = true := decide_eq_true (by omega)
      go_wp2
      go_step3
      rw [show ((t : Nat) : Int) + 1 = ((t + 1 : Nat) : Int) by omega]
      refine And.intro rfl (And.intro ?_ ?_)
      · exact ⟨k + 1, t + 1, _, _, _, _, _, _, _, _, _, _, _, _, _, _, _, _, _, _, _, _, _, _, _, _, _, _, _, _, _, _, _, _, _, _, _, _, _, _, _, _, by have := HTK.out; omega, by have := HTK.out; omega, rfl, HF⟩
      · simp [intOf]; omega
    · have hj : decide (((t : Nat) : Int) + 1 < (many : Int)) = false := decide_eq_false (by omega)
      obtain ⟨V, hV⟩ : ∃ V, V = (bc 240 (E (k + 1))).toArray := ⟨_, rfl⟩
      have hVl : V.size = 240 := by rw [hV, List.size_toArray, bc_len]
      have hV1 : Hid (V.all (·.oneCell') = true) := by rw [hV]; exact bc_one _ _
      have HV := hide hV
      have R2 : Hid (W9.heap[w.heap.size + 1]? = some (.cells V 73 (0, 0))) := by rw [hV]; exact HF.out.2.2
      have R1 := hide HF.out.2.1
      clear hV
      go_wp2_with (first
        | (refine wpList_load_row rfl 73 _ rfl (w.heap.size + 1) rfl 73 V (0, 0) _ R2.out Tryd.underlying73 rfl (by rw [hVl]; rfl) ?_)
        | (refine wpList_store_row rfl 73 _ _ rfl w.heap.size V rfl rfl 73 Z.toArray R1.out (by rw [hVl]; rfl) (by rw [hZl, hVl]) hV1.out ?_))
      simp only [Exit.jump]
      refine bodyPost_ret (v := .agg V) (results_cell_row rfl _ _ w.heap.size 73 V (0, 0) _ rfl (setRow_heap _ _ _ _ _ _ R1.out) Tryd.underlying73 rfl (by rw [hVl]; rfl)) rfl ⟨?_, ?_⟩
      · have hq : many - n = k + 1 := by have htk := HTK.out; have hkm := HKM.out; have := HMANY.out; omega
        rw [HV.out, hq]
      · exact below_setRow HF.out.1 (by omega) _
  go_wp2
  clear hz
  try rw [hl4]
  go_loopw [16] (fun j wr => ∃ i : Nat, i ≤ n ∧ j = .int .i64 i ∧ Hid (Below w.heap.size w wr ∧ wr.heap[w.heap.size]? = some (.cells Z.toArray 73 (0, 0)) ∧ wr.heap[w.heap.size + 1]? = some (.cells (bc 240 (upto (4 * i) kf)).toArray 73 (0, 0)))) (fun j _ => n - (intOf j).toNat)
  case atStart =>
    refine ⟨0, by omega, rfl, below_alloc (below_alloc (Below.refl _ _) _) _, heap_alloc2_old _ _ _, ?_⟩
    rw [Nat.mul_zero, upto_zero, ← HZ.out]; exact heap_alloc2_new _ _ _
  case round =>
    obtain ⟨i, hi, rfl, HR⟩ := hrel
    by_cases hlt : i < n
    · have i1 : (i : Int) < n := by omega
      have i2 : i < 8 := by omega
      obtain ⟨d, hd⟩ : ∃ d, d = 4 * i := ⟨_, rfl⟩
      have K1 := hide (cW.out i hlt wr HR.out.1)
      have K2 := hide (cP.out i hlt)
      rw [← hd] at K1 K2 HR
      have w1 : IntKind.i64.wrap (4 * (i : Int)) = (d : Int) := by rw [IntKind.wrap_i64]; omega
      have HD := hide hd
      clear hd
      go_wp2_with fail
      refine (K1.out).mono ?_
      rintro e w1 ⟨rfl, b1⟩
      go_wp2_with fail
      refine (K2.out _).mono ?_
      rintro e w2 ⟨rfl, b2⟩
      obtain ⟨A, hA⟩ : ∃ A, A = bc 4 (fun r => kf (d + r)) := ⟨_, rfl⟩
      rw [← hA]
      have sA : A.toArray.size = 4 := by rw [hA, List.size_toArray, bc_len]
      have oA : Hid (A.toArray.all (·.oneCell') = true) := by rw [hA]; exact bc_one _ _
      have HA := hide hA
      have R2 := hide (((below_two b1 b2).block _ (Array.getElem?_eq_some_iff.1 HR.out.2.2).1).trans HR.out.2.2)
      have B2 := hide (below_two b1 b2)
      have hth : Hid (w2.there (w.heap.size + 1) (i * 4) A.toArray.size) := by
        have := HD.out
        rw [sA]; exact there_row R2.out (by rw [bc_len]; omega)
      clear hA K1 K2 b1 b2
      go_wp2_with (refine wpList_store_mid rfl 71 _ _ rfl (w.heap.size + 1) (i * 4) A.toArray rfl rfl hth.out (by rw [sA]; rfl) oA.out ?_)
      go_roundw
      case rel =>
        refine ⟨i + 1, by omega, by go_num, setCells_below _ _ (by omega) _ _ _ _ (below_two HR.out.1 B2.out), ?_, ?_⟩
        · rw [setCells_heap _ _ (by omega)]
          exact (B2.out.block _ (Array.getElem?_eq_some_iff.1 HR.out.2.1).1).trans HR.out.2.1
        · have h := setCells_row (w.heap.size + 1) 73 A (i * 4) w2 _ R2.out
          rw [HA.out, setL_bc] at h
          rw [HA.out]
          refine Eq.trans ?_ (Eq.trans h ?_)
          · rfl
          · rw [bc_congr]
            intro j _
            have := HD.out
            unfold upto
            by_cases h1 : i * 4 ≤ j ∧ j < i * 4 + 4
            · rw [if_pos h1, if_pos (by omega), show d + (j - i * 4) = j by omega]
            · rw [if_neg h1]
              by_cases h2 : j < d
              · rw [if_pos h2, if_pos (by omega)]
              · rw [if_neg h2, if_neg (by omega)]
      case measure => simp [intOf]; omega
    · obtain rfl : n = i := by omega
      have HS : Hid (Below w.heap.size w wr ∧ wr.heap[w.heap.size]? = some (.cells Z.toArray 73 (0, 0)) ∧ wr.heap[w.heap.size + 1]? = some (.cells (bc 240 (E 0)).toArray 73 (0, 0))) := by
        have := HR.out
        rw [hE0.out] at this
        exact this
      clear HR hlt hi cW cP
      have HT0 : n + 0 < many := HMANY.out
      obtain ⟨P, hP⟩ : ∃ P, P = bc 4 (fun r => E 0 (4 * (n + 0) - 4 + r)) := ⟨_, rfl⟩
      obtain ⟨C, hC⟩ : ∃ C, C = bc 4 (ch 0) := ⟨_, rfl⟩
      obtain ⟨D, hD⟩ : ∃ D, D = bc 4 (nw 0) := ⟨_, rfl⟩
      have lP : P.length = 4 := by rw [hP]; exact bc_len _ _
      have iP : (Tryd.prog.info? 71).map (·.size) = some P.length := by rw [lP]; rfl
      have sC : C.toArray.size = 4 := by rw [hC, List.size_toArray, bc_len]
      have oC : Hid (C.toArray.all (·.oneCell') = true) := by rw [hC]; exact bc_one _ _
      have sD : D.toArray.size = 4 := by rw [hD, List.size_toArray, bc_len]
      have oD : Hid (D.toArray.all (·.oneCell') = true) := by rw [hD]; exact bc_one _ _
      have K1 := hide (cC.out 0 HT0 wr HS.out.1)
      have K2 := hide (cA.out 0 HT0)
      have K3 := hide (cB.out 0 HT0)
      have hxx := hx.out 0 HT0
      have K4 := hide (cX.out 0 HT0)
      rw [← hP, ← hC] at K1
      rw [← hC] at K3
      rw [← hD] at K4
      have HD := hide hD
      generalize xa 0 = ya at K2 hxx
      generalize xb 0 = yb at K3 hxx
      generalize xc 0 = yc at hxx K4
      rw [Nat.add_zero] at K1
      have rP : Hid (wr.rangeAt (w.heap.size + 1) ((n - 1) * 4) P) := by
        rw [hP]
        have := range_mid (o := 4 * (n + 0) - 4) (m := 4) HS.out.2.2 (by omega)
        rw [show (n - 1) * 4 = 4 * (n + 0) - 4 by omega]
        exact this
      have rQ : Hid (wr.rangeAt (w.heap.size + 1) (0) (bc 4 fun r => E 0 (4 * 0 + r))) := by
        have := range_mid (o := 4 * 0) (m := 4) HS.out.2.2 (by omega)
        rw [show 0 = 4 * 0 by omega]
        exact this
      have hlo : w.heap.size + 1 < wr.heap.size := (Array.getElem?_eq_some_iff.1 HS.out.2.2).1
      have i3 : (n : Int) < 60 := by omega
      have i4 : n < 60 := by omega
      have hz4 := zero4
      obtain ⟨Z4, hZ4⟩ : ∃ Z4, Z4 = bc 4 (fun _ => 0) := ⟨_, rfl⟩
      rw [← hZ4] at hz4
      have sZ4 : Z4.toArray.size = 4 := by rw [hZ4, List.size_toArray, bc_len]
      clear hP hC hD hZ4 lP
      go_wp2_with fail
      go_step3
      
      go_wp2_with (refine wpList_load_mid rfl 71 _ rfl (w.heap.size + 1) ((n - 1) * 4) rfl P _ rP.out Tryd.underlying71 rfl iP ?_)
      refine (K1.out).mono ?_
      rintro e w3 ⟨rfl, b3⟩
      obtain ⟨nb, nr⟩ := new_row w3 Z4.toArray C.toArray 71
      have b4 := below_two b3 nb
      have NR := hide nr
      have B4 := hide b4
      have RQ := hide (fun j v (hj : (bc 4 fun r => E 0 (4 * 0 + r))[j]? = some v) => Go.Proofs.YtlkihbmkekadeaaDoor.later b4 (rQ.out j v hj))
      clear b3 b4 nb nr K1 rQ rP
      go_wp2_with (refine wpList_store_row rfl 71 _ _ rfl w3.heap.size C.toArray rfl rfl 71 _ (heap_alloc_new _ _) (by rw [sC]; rfl) (by rw [sC, sZ4]) oC.out ?_)
      have RH := hide ((B4.out.block _ (Array.getElem?_eq_some_iff.1 HS.out.2.2).1).trans HS.out.2.2)
      have RZ := hide ((B4.out.block _ (Array.getElem?_eq_some_iff.1 HS.out.2.1).1).trans HS.out.2.1)
      have BW := hide (below_two HS.out.1 B4.out)
      obtain ⟨g3, hg3⟩ : ∃ g3, g3 = w3.heap.size := ⟨_, rfl⟩
      obtain ⟨W5, hW5⟩ : ∃ W5, W5 = (w3.alloc (.cells Z4.toArray 71)).setRow w3.heap.size C.toArray := ⟨_, rfl⟩
      rw [← hW5] at NR RQ RH RZ BW ⊢
      rw [← hg3] at NR ⊢
      clear hW5 hg3 B4 HS hz4
      have hwz : IntKind.i64.wrap 0 = 0 := rfl
      refine wp_region_held_drew (S := fun _ => True) (by kernel_rfl) trivial (fun hHeld => ?_)
      refine wpAnyH_take (i := 0) (v := ?_) rfl (by kernel_rfl) (by kernel_rfl) (by kernel_rfl) (fun _ _ _ h => h) (Or.inl ⟨by rfl, ?_⟩) (by assumption) ?_
      rotate_left
      · (intro w hSw; (try dsimp only at hSw); simp only [List.getElem_toArray, List.getElem_cons_zero]; go_simp; try with_reducible rfl)
      simp only [Act.put, List.getElem_toArray, List.getElem_cons_zero, List.setIfInBounds_toArray, List.set_cons_zero, List.set_cons_succ]
      refine wpAnyH_take (i := 1) (v := ?_) rfl (by kernel_rfl) (by kernel_rfl) (by kernel_rfl) (fun _ _ _ h => h) (Or.inl ⟨by rfl, ?_⟩) (by assumption) ?_
      rotate_left
      · (intro w hSw; (try dsimp only at hSw); simp only [List.getElem_toArray, List.getElem_cons_succ, List.getElem_cons_zero]; go_simp; try with_reducible rfl)
      simp only [Act.put, List.getElem_toArray, List.getElem_cons_succ, List.getElem_cons_zero, List.setIfInBounds_toArray, List.set_cons_zero, List.set_cons_succ]
      refine wpAnyH_take (i := 2) (v := ?_) rfl (by kernel_rfl) (by kernel_rfl) (by kernel_rfl) (fun _ _ _ h => h) (Or.inl ⟨by rfl, ?_⟩) (by assumption) ?_
      rotate_left
      · (intro w hSw; (try dsimp only at hSw); simp only [List.getElem_toArray, List.getElem_cons_succ, List.getElem_cons_zero]; go_simp; try with_reducible rfl)
      simp only [Act.put, List.getElem_toArray, List.getElem_cons_succ, List.getElem_cons_zero, List.setIfInBounds_toArray, List.set_cons_zero, List.set_cons_succ]
      refine wpAnyH_take (i := 3) (v := ?_) rfl (by kernel_rfl) (by kernel_rfl) (by kernel_rfl) (fun _ _ _ h => h) (Or.inl ⟨by rfl, ?_⟩) (by assumption) ?_
      rotate_left
      · (intro w hSw; (try dsimp only at hSw); simp only [List.getElem_toArray, List.getElem_cons_succ, List.getElem_cons_zero]; go_simp; try with_reducible rfl)
      simp only [Act.put, List.getElem_toArray, List.getElem_cons_succ, List.getElem_cons_zero, List.setIfInBounds_toArray, List.set_cons_zero, List.set_cons_succ]
      refine wpAnyH_take (i := 4) (v := ?_) rfl (by kernel_rfl) (by kernel_rfl) (by kernel_rfl) (fun _ _ _ h => h) (Or.inl ⟨by rfl, ?_⟩) (by assumption) ?_
      rotate_left
      · (intro w hSw; (try dsimp only at hSw); simp only [List.getElem_toArray, List.getElem_cons_succ, List.getElem_cons_zero]; go_simp; try with_reducible rfl)
      simp only [Act.put, List.getElem_toArray, List.getElem_cons_succ, List.getElem_cons_zero, List.setIfInBounds_toArray, List.set_cons_zero, List.set_cons_succ]
      refine wpAnyH_take (i := 5) (v := ?_) rfl (by kernel_rfl) (by kernel_rfl) (by kernel_rfl) (fun _ _ _ h => h) (Or.inl ⟨by rfl, ?_⟩) (by assumption) ?_
      rotate_left
      · (intro w hSw; (try dsimp only at hSw); simp only [List.getElem_toArray, List.getElem_cons_succ, List.getElem_cons_zero]; go_simp; try with_reducible rfl)
      simp only [Act.put, List.getElem_toArray, List.getElem_cons_succ, List.getElem_cons_zero, List.setIfInBounds_toArray, List.set_cons_zero, List.set_cons_succ]
      refine wpAnyH_take (i := 7) (v := ?_) rfl (by kernel_rfl) (by kernel_rfl) (by kernel_rfl) (fun _ _ _ h => h) (Or.inl ⟨by rfl, ?_⟩) (by assumption) ?_
      rotate_left
      · (intro w hSw; (try dsimp only at hSw); simp only [List.getElem_toArray, List.getElem_cons_succ, List.getElem_cons_zero]; go_simp; try with_reducible rfl)
      simp only [Act.put, List.getElem_toArray, List.getElem_cons_succ, List.getElem_cons_zero, List.setIfInBounds_toArray, List.set_cons_zero, List.set_cons_succ]
      refine wpAnyH_ready (rs := [6]) (by kernel_rfl) (by simp) ?_
      refine AllReadyH.cons rfl (fun K hK => ?_) AllReadyH.nil
      simp only [List.getElem_toArray, List.getElem_cons_succ, List.getElem_cons_zero]
      go_simp
      refine (K2.out W5.drew _ _ RQ.out).mono ?_
      rintro e w6 ⟨rfl, b6⟩
      go_wp2_with fail
      refine hK.out _ _ ?_ (fun hHeld => ?_)
      · trivial
      clear hK K
      try simp only [Act.put, List.setIfInBounds_toArray, List.set_cons_zero, List.set_cons_succ]
      refine wpAnyH_ready (rs := [8]) (by kernel_rfl) (by simp) ?_
      refine AllReadyH.cons rfl (fun K hK => ?_) AllReadyH.nil
      simp only [List.getElem_toArray, List.getElem_cons_succ, List.getElem_cons_zero]
      go_simp
      refine (K3.out _ g3 0 ?hr8).mono ?_
      case hr8 =>
        intro j v hj
        refine Go.Proofs.YtlkihbmkekadeaaDoor.later b6 ?_
        show W5.cell? _ = _
        rw [Nat.zero_add, cell_of_row _ g3 _ _ _ _ NR.out]; simpa using hj
      rintro e w7 ⟨rfl, b7⟩
      go_wp2_with fail
      refine hK.out _ _ ?_ (fun hHeld => ?_)
      · trivial
      clear hK K
      try simp only [Act.put, List.setIfInBounds_toArray, List.set_cons_zero, List.set_cons_succ]
      refine wpAnyH_take (i := 9) (v := ?_) rfl (by kernel_rfl) (by kernel_rfl) (by kernel_rfl) (fun _ _ _ h => h) (Or.inl ⟨by rfl, ?_⟩) (by assumption) ?_
      rotate_left
      · (intro w hSw; (try dsimp only at hSw); simp only [List.getElem_toArray, List.getElem_cons_succ, List.getElem_cons_zero]; go_simp; try with_reducible rfl)
      simp only [Act.put, List.getElem_toArray, List.getElem_cons_succ, List.getElem_cons_zero, List.setIfInBounds_toArray, List.set_cons_zero, List.set_cons_succ]
      refine wpAnyH_ready (rs := [10]) (by kernel_rfl) (by simp) ?_
      refine AllReadyH.cons rfl (fun K hK => ?_) AllReadyH.nil
      simp only [List.getElem_toArray, List.getElem_cons_succ, List.getElem_cons_zero]
      go_simp
      refine (K4.out _).mono ?_
      rintro e w8 ⟨rfl, b8⟩
      go_wp2_with fail
      refine hK.out _ _ ?_ (fun hHeld => ?_)
      · trivial
      clear hK K
      try simp only [Act.put, List.setIfInBounds_toArray, List.set_cons_zero, List.set_cons_succ]
      refine wpAnyH_take (i := 11) (v := ?_) rfl (by kernel_rfl) (by kernel_rfl) (by kernel_rfl) (fun _ _ _ h => h) (Or.inl ⟨by rfl, ?_⟩) (by assumption) ?_
      rotate_left
      · (intro w hSw; (try dsimp only at hSw); simp only [List.getElem_toArray, List.getElem_cons_succ, List.getElem_cons_zero]; go_simp; try with_reducible rfl)
      simp only [Act.put, List.getElem_toArray, List.getElem_cons_succ, List.getElem_cons_zero, List.setIfInBounds_toArray, List.set_cons_zero, List.set_cons_succ]
      have b678 := below_two (below_two b6 b7) b8
      have RH8 := (b678.block _ (Array.getElem?_eq_some_iff.1 RH.out).1).trans RH.out
      have RZ8 := hide ((b678.block _ (Array.getElem?_eq_some_iff.1 RZ.out).1).trans RZ.out)
      have BW8 := hide (below_two BW.out.drew b678)
      refine wpAnyH_ready (rs := [12]) (by kernel_rfl) (by simp) ?_
      refine AllReadyH.cons rfl (fun K hK => ?_) AllReadyH.nil
      rw [if_pos (by rfl)]
      refine wp_store_mid 71 _ _ rfl (w.heap.size + 1) (n * 4) D.toArray rfl rfl (by rw [sD]; exact there_row RH8 (by rw [bc_len]; omega)) (by rw [sD]; rfl) oD.out (hK.out _ _ trivial (fun hHeld => ?_))
      clear hK K
      try simp only [Act.put, List.setIfInBounds_toArray, List.set_cons_zero, List.set_cons_succ]
      refine wpAnyH_done (by kernel_rfl) ?_ _
      have HF : Hid (Below w.heap.size w (w8.setCells (w.heap.size + 1) (n * 4) D.toArray.toList) ∧ (w8.setCells (w.heap.size + 1) (n * 4) D.toArray.toList).heap[w.heap.size]? = some (.cells Z.toArray 73 (0, 0)) ∧ (w8.setCells (w.heap.size + 1) (n * 4) D.toArray.toList).heap[w.heap.size + 1]? = some (.cells (bc 240 (E (0 + 1))).toArray 73 (0, 0))) := by
        refine ⟨setCells_below _ _ (by omega) _ _ _ _ BW8.out, (setCells_heap _ _ (by omega) _ _ _).trans RZ8.out, ?_⟩
        have h := setCells_row (w.heap.size + 1) 73 D (n * 4) w8 _ RH8
        rw [HD.out, setL_bc] at h
        rw [← hE.out 0 HMANY.out]
        show (w8.setCells (w.heap.size + 1) (n * 4) D).heap[w.heap.size + 1]? = _
        rw [HD.out, h]
        
        rw [show n * 4 = 4 * (n + 0) by omega]
      obtain ⟨W9, hW9⟩ : ∃ W9, W9 = w8.setCells (w.heap.size + 1) (n * 4) D.toArray.toList := ⟨_, rfl⟩
      rw [← hW9] at HF ⊢
      clear hW9 RH8 RZ8 BW8 b678 b6 b7 b8 RQ RH RZ BW NR K2 K3 K4 hxx
      by_cases hjj : n + 1 < many
      · have hj : decide (((n : Nat) : Int) + 1 < (many : Int)) = true := decide_eq_true (by omega)
        go_wp2
        go_step3
        rw [show ((n : Nat) : Int) + 1 = ((n + 1 : Nat) : Int) by omega]
        refine And.intro rfl ?_
        exact ⟨1, n + 1, _, _, _, _, _, _, _, _, _, _, _, _, _, _, _, _, _, _, _, _, _, _, _, _, _, _, _, _, _, _, _, _, _, _, _, _, _, _, _, _, hjj, rfl, rfl, HF⟩
      · have hj : decide (((n : Nat) : Int) + 1 < (many : Int)) = false := decide_eq_false (by omega)
        obtain ⟨V, hV⟩ : ∃ V, V = (bc 240 (E (0 + 1))).toArray := ⟨_, rfl⟩
        have hVl : V.size = 240 := by rw [hV, List.size_toArray, bc_len]
        have hV1 : Hid (V.all (·.oneCell') = true) := by rw [hV]; exact bc_one _ _
        have HV := hide hV
        have R2 : Hid (W9.heap[w.heap.size + 1]? = some (.cells V 73 (0, 0))) := by rw [hV]; exact HF.out.2.2
        have R1 := hide HF.out.2.1
        clear hV
        go_wp2_with (first
          | (refine wpList_load_row rfl 73 _ rfl (w.heap.size + 1) rfl 73 V (0, 0) _ R2.out Tryd.underlying73 rfl (by rw [hVl]; rfl) ?_)
          | (refine wpList_store_row rfl 73 _ _ rfl w.heap.size V rfl rfl 73 Z.toArray R1.out (by rw [hVl]; rfl) (by rw [hZl, hVl]) hV1.out ?_))
        simp only [Exit.jump]
        refine bodyPost_ret (v := .agg V) (results_cell_row rfl _ _ w.heap.size 73 V (0, 0) _ rfl (setRow_heap _ _ _ _ _ _ R1.out) Tryd.underlying73 rfl (by rw [hVl]; rfl)) rfl ⟨?_, ?_⟩
        · have hq : many - n = 0 + 1 := by have := HMANY.out; omega
          rw [HV.out, hq]
        · exact below_setRow HF.out.1 (by omega) _
end Go.Proofs.YtlkihbmkekadeaaDoor
