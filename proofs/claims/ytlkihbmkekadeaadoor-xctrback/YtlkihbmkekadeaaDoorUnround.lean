/- Own: the contract of Unround of layer 3 (no statement is proved here). -/
import Derived.Test.YtlkihbmkekadeaaDoorUnlast
namespace Go.Proofs.YtlkihbmkekadeaaDoor
open Go.ChangeShapes Go.WideShapes Go.ChangeAt Go.RowKit
set_option maxRecDepth 20000

theorem quad_row (c : Nat) (hc : c < 4) (R : Nat → Nat) : (bc 16 (upto (4 * c) R)).take (4 * c) ++ bc 4 (fun i => R (4 * c + i)) ++ (bc 16 (upto (4 * c) R)).drop (4 * c + 4) = bc 16 (upto (4 * c + 4) R) := by
  match c, hc with
  | 0, _ => rfl
  | 1, _ => rfl
  | 2, _ => rfl
  | 3, _ => rfl
theorem copy_quad (W : World) (g q c d n m : Nat) (hc : c < 4) (hd : d = 4 * c) (hn : n = 16 - d) (R : Nat → Nat) (t t' : TypeId) (hg : W.heap[g]? = some (.cells (bc 16 (upto (4 * c) R)).toArray t (0, 0))) (hq : W.heap[q]? = some (.cells (bc 4 fun i => R (4 * c + i)).toArray t' (0, 0))) :
    (Builtin.copy_ #[22, 22] 3 #[.slice (some ⟨g, d, none⟩) n m, .slice (some ⟨q, 0, none⟩) 4 4]).run Tryd.prog W = .ok (goInt 4) (W.setRow g (bc 16 (upto (4 * c + 4) R)).toArray) := by
  subst hd hn
  have h := run_copy_row (P := Tryd.prog) W 22 22 3 5 g (4 * c) (16 - 4 * c) m ⟨q, 0, none⟩ 4 4 (bc 16 (upto (4 * c) R)).toArray t (bc 4 fun i => R (4 * c + i)) Tryd.underlying22 rfl hg (by rw [bc_len]; show _ = min _ _; omega)
    (fun j v hj => by rw [addr_add, cell_of_row W q _ _ _ _ hq]; simpa using hj) (by rw [bc_len, List.size_toArray, bc_len]; omega) (fun v hv => by unfold bc at hv; obtain ⟨i, _, rfl⟩ := List.mem_map.1 hv; rfl)
  rw [bc_len] at h
  rw [← quad_row c hc R]
  exact h

set_option linter.unusedSimpArgs false in
set_option maxRecDepth 100000 in
set_option maxHeartbeats 4000000 in
theorem unround_core (g : Nat) (f k R1 R : Nat → Nat) (m P : Nat → Nat → Nat) (w : World) (hf : Hid (∀ i, f i < 256)) (hk : Hid (∀ i, k i < 256))
    (hm : Hid (∀ r a, r < 4 → a < 256 → m r a < 4294967296))
    (hT : Hid (∀ w', Below w.heap.size w w' → ∀ r a, r < 4 → a < 256 → w'.cell? ⟨g, 1536 + r * 256 + a, none⟩ = some (.int .u32 (m r a : Nat))))
    (cP : Hid (∀ n, n < 4294967296 → ∀ w, Calls Tryd.prog 53 #[.int .u32 (n : Nat)] w fun e w' => e = .returned (.agg (bc 4 (P n)).toArray) ∧ Below w.heap.size w w'))
    (hR : Hid (∀ c i, c < 4 → i < 4 → P (colx (fun r => m r (f (4 * c + r) ^^^ k (4 * c + r))) 4) i = R1 (4 * c + i)))
    (cU : Hid (∀ w', Below w.heap.size w w' → Calls Tryd.prog 45 #[.pointer (some ⟨g, 0, none⟩), .agg (bc 16 R1).toArray, .agg (bc 16 fun _ => 0).toArray] w' fun e w'' => e = .returned (.agg (bc 16 R).toArray) ∧ Below w'.heap.size w' w'')) :
    Calls Tryd.prog 46 #[.pointer (some ⟨g, 0, none⟩), .agg (bc 16 f).toArray, .agg (bc 16 k).toArray] w fun e w' => e = .returned (.agg (bc 16 R).toArray) ∧ Below w.heap.size w w' := by
  obtain ⟨X, hX⟩ : ∃ X, X = bc 16 f := ⟨_, rfl⟩
  obtain ⟨Y, hY⟩ : ∃ Y, Y = bc 16 k := ⟨_, rfl⟩
  obtain ⟨Z, hZ⟩ : ∃ Z, Z = bc 16 (fun _ => 0) := ⟨_, rfl⟩
  have hz := zero16
  rw [← hX, ← hY]
  rw [← hZ] at hz cU
  have HX := hide hX
  have HY := hide hY
  have HZ := hide hZ
  clear hX hY hZ
  go_enter Tryd.func46, Tryd.ntmps46
  go_wp2
  go_loopw [15] (fun i wr => ∃ c : Nat, c ≤ 4 ∧ i = .int .i64 c ∧ Hid (Four w X Y Z (bc 16 (upto (4 * c) R1)) wr)) (fun i _ => 4 - (intOf i).toNat)
  case atStart =>
    refine ⟨0, by omega, rfl, ?_⟩
    rw [Nat.mul_zero, upto_zero, ← HZ.out]
    exact Four.start w X Y Z Z
  case round =>
    obtain ⟨c, hc, rfl, HR⟩ := hrel
    by_cases hlt : c < 4
    · go_wp2_with fail
      rw [show decide ((c : Int) < 4) = true from decide_eq_true (by omega)]
      go_loopw [18, 9] (fun i s w2 => ∃ r : Nat, r ≤ 4 ∧ i = .int .i64 r ∧ s = .int .u32 (colx (fun r => m r (f (4 * c + r) ^^^ k (4 * c + r))) r : Nat) ∧ Hid (Four w X Y Z (bc 16 (upto (4 * c) R1)) w2)) (fun i _ _ => 4 - (intOf i).toNat)
      case atStart => exact ⟨0, by omega, rfl, rfl, HR⟩
      case round =>
        obtain ⟨r, hr, rfl, rfl, H2⟩ := hrel
        by_cases hlr : r < 4
        · obtain ⟨d, hd⟩ : ∃ d, d = 4 * c := ⟨_, rfl⟩
          obtain ⟨j, hj⟩ : ∃ j, j = d + r := ⟨_, rfl⟩
          have w1 : IntKind.i64.wrap (4 * (c : Int)) = (d : Int) := by rw [IntKind.wrap_i64]; omega
          have w2 : IntKind.i64.wrap ((d : Int) + (r : Int)) = (j : Int) := by rw [IntKind.wrap_i64]; omega
          have hj4 : j = 4 * c + r := by omega
          obtain ⟨y, hy⟩ : ∃ y, y = f j := ⟨_, rfl⟩
          have hy256 : y < 256 := by rw [hy]; exact hf.out j
          obtain ⟨z, hzz⟩ : ∃ z, z = k j := ⟨_, rfl⟩
          have hz256 : z < 256 := by rw [hzz]; exact hk.out j
          obtain ⟨v, hv⟩ : ∃ v, v = y ^^^ z := ⟨_, rfl⟩
          have hv256 : v < 256 := by rw [hv]; exact xor_lt _ _ hy256 hz256
          have hxv : bits .xor .u8 (y : Int) (z : Int) = (v : Int) := by rw [hv]; exact xor_u8 y z hy256 hz256
          obtain ⟨t, ht⟩ : ∃ t, t = m r v := ⟨_, rfl⟩
          have ht32 : t < 4294967296 := by rw [ht]; exact hm.out r v hlr hv256
          obtain ⟨s, hs⟩ : ∃ s, s = colx (fun r => m r (f (4 * c + r) ^^^ k (4 * c + r))) r := ⟨_, rfl⟩
          have hs32 : s < 4294967296 := by
            rw [hs]; exact colx_lt _ _ fun r' hr' => hm.out r' _ (by omega) (xor_lt _ _ (hf.out _) (hk.out _))
          have e1 : wr.cell? ⟨w.heap.size, j, none⟩ = some (.int .u8 (y : Nat)) := by
            have := row_cell (by rw [← HX.out]; exact H2.out.2.1) j (by omega)
            rw [hy]; exact this
          have e2 : wr.cell? ⟨w.heap.size + 1, j, none⟩ = some (.int .u8 (z : Nat)) := by
            have := row_cell (by rw [← HY.out]; exact H2.out.2.2.1) j (by omega)
            rw [hzz]; exact this
          have e3 : wr.cell? ⟨g, 1536 + r * 256 + v, none⟩ = some (.int .u32 (t : Nat)) := by rw [ht]; exact hT.out wr H2.out.1 r v hlr hv256
          have hx : Hid (bits .xor .u32 (s : Int) (t : Int) = ((colx (fun r => m r (f (4 * c + r) ^^^ k (4 * c + r))) (r + 1) : Nat) : Int)) := by
            show _ = _
            rw [xor_u32 s t hs32 ht32, colx, hs, ht, hv, hy, hzz, hj4]
          rw [← hs]
          have i1 : (j : Int) < 16 := by omega
          have i2 : (v : Int) < 256 := by omega
          have i3 : (r : Int) < 4 := by omega
          clear hd hj hj4 hy hzz hv ht hs HR hy256 hz256 hv256 ht32 hs32
          go_wp2_with fail
          go_quiet (fail)
          go_wp2
          go_roundw
          case rel => exact ⟨r + 1, by omega, by go_num, by rw [hx.out], H2.out.drewN _⟩
          case measure => simp [intOf]; omega
        · obtain rfl : r = 4 := by omega
          obtain ⟨s, hs⟩ : ∃ s, s = colx (fun r => m r (f (4 * c + r) ^^^ k (4 * c + r))) 4 := ⟨_, rfl⟩
          have hs32 : s < 4294967296 := by
            rw [hs]; exact colx_lt _ _ fun r' hr' => hm.out r' _ (by omega) (xor_lt _ _ (hf.out _) (hk.out _))
          rw [← hs]
          have K1 := hide (cP.out s hs32)
          have hPR : bc 4 (P s) = bc 4 fun i => R1 (4 * c + i) := bc_congr fun i hi => by rw [hs]; exact hR.out c i hlt hi
          clear HR hs32 hs
          go_wp2_with fail
          refine (K1.out _).mono ?_
          rintro e w3 ⟨rfl, b3⟩
          have H3 := hide (H2.out.later b3)
          have hz4 := zero4
          obtain ⟨Z4, hZ4⟩ : ∃ Z4, Z4 = bc 4 (fun _ => 0) := ⟨_, rfl⟩
          rw [← hZ4] at hz4
          have hZl : Z4.toArray.size = 4 := by rw [hZ4, List.size_toArray, bc_len]
          obtain ⟨A, hA⟩ : ∃ A, A = bc 4 (P s) := ⟨_, rfl⟩
          rw [← hA]
          have hAl : A.toArray.size = 4 := by rw [hA, List.size_toArray, bc_len]
          have hA1 : Hid (A.toArray.all (·.oneCell') = true) := by rw [hA]; exact bc_one _ _
          rw [hPR] at hA
          have HA := hide hA
          clear hZ4 b3 H2 hA hPR
          go_wp2_with (refine wpList_store_row rfl 71 _ _ rfl w3.heap.size A.toArray rfl rfl 71 _ (heap_alloc_new _ _) (by rw [hAl]; rfl) (by rw [hAl, hZl]) hA1.out ?_)
          obtain ⟨nb, nr⟩ := new_row w3 Z4.toArray A.toArray 71
          have h4 := H3.out.later nb
          obtain ⟨g4, hg4⟩ : ∃ g4, g4 = w3.heap.size := ⟨_, rfl⟩
          obtain ⟨W, hW⟩ : ∃ W, W = (w3.alloc (.cells Z4.toArray 71)).setRow w3.heap.size A.toArray := ⟨_, rfl⟩
          rw [← hW] at h4 nr ⊢
          rw [← hg4] at nr ⊢
          obtain ⟨d, hd⟩ : ∃ d, d = 4 * c := ⟨_, rfl⟩
          have w1 : IntKind.i64.wrap (4 * (c : Int)) = (d : Int) := by rw [IntKind.wrap_i64]; omega
          obtain ⟨n, hn⟩ : ∃ n, n = 16 - d := ⟨_, rfl⟩
          have hcp := copy_quad W.drew (w.heap.size + 1 + 1 + 1) g4 c d n n hlt hd hn R1 31 71 h4.2.2.2.2 (by rw [← HA.out]; exact nr)
          have H4 := hide h4
          have i1 : (d : Int) ≤ 16 := by omega
          have i2 : d ≤ 16 := by omega
          have i3 : (16 - (d : Int)).toNat = n := by omega
          have i4 : 16 - d = n := hn.symm
          have i5 : ¬ 16 = d := by omega
          clear hz4 hZl hAl hA1 H3 nb nr hg4 hW K1 h4 hd hn
          refine wp_region_held_drew (S := fun _ => True) (by kernel_rfl) ?_ (fun hHeld => ?_)
          · trivial
          refine wpAnyH_take (i := 0) (v := ?_) rfl (by kernel_rfl) (by kernel_rfl) (by kernel_rfl) (fun _ _ _ h => h) (Or.inl ⟨by rfl, ?_⟩) (by assumption) ?_
          rotate_left
          · (intro w hSw; (try dsimp only at hSw); simp only [List.getElem_toArray, List.getElem_cons_zero]; go_simp; try with_reducible rfl)
          simp only [Act.put, List.getElem_toArray, List.getElem_cons_zero, List.setIfInBounds_toArray, List.set_cons_zero, List.set_cons_succ]
          refine wpAnyH_take (i := 1) (v := ?_) rfl (by kernel_rfl) (by kernel_rfl) (by kernel_rfl) (fun _ _ _ h => h) (Or.inl ⟨by rfl, ?_⟩) (by assumption) ?_
          rotate_left
          · (intro w hSw; (try dsimp only at hSw); simp only [List.getElem_toArray, List.getElem_cons_succ, List.getElem_cons_zero]; go_simp; try with_reducible rfl)
          simp only [Act.put, List.getElem_toArray, List.getElem_cons_succ, List.getElem_cons_zero, List.setIfInBounds_toArray, List.set_cons_zero, List.set_cons_succ]
          refine wpAnyH_take (i := 2) (v := ?_) rfl (by kernel_rfl) (by kernel_rfl) (by kernel_rfl) (fun _ _ _ h => h) (Or.inl ⟨by rfl, ?_⟩) (by assumption) ?_
          rotate_left
          · (intro w hSw; (try dsimp only at hSw); simp only [List.getElem_toArray, List.getElem_cons_succ, List.getElem_cons_zero]; go_simp; try with_reducible rfl)
          simp only [Act.put, List.getElem_toArray, List.getElem_cons_succ, List.getElem_cons_zero, List.setIfInBounds_toArray, List.set_cons_zero, List.set_cons_succ]
          refine wpAnyH_take (i := 3) (v := ?_) rfl (by kernel_rfl) (by kernel_rfl) (by kernel_rfl) (fun _ _ _ h => h) (Or.inl ⟨by rfl, ?_⟩) (by assumption) ?_
          rotate_left
          · (intro w hSw; (try dsimp only at hSw); simp only [List.getElem_toArray, List.getElem_cons_succ, List.getElem_cons_zero]; go_simp; try with_reducible rfl)
          simp only [Act.put, List.getElem_toArray, List.getElem_cons_succ, List.getElem_cons_zero, List.setIfInBounds_toArray, List.set_cons_zero, List.set_cons_succ]
          refine wpAnyH_ready (rs := [4]) (by kernel_rfl) (by simp) ?_
          refine AllReadyH.cons rfl (fun K hK => ?_) AllReadyH.nil
          simp only [List.getElem_toArray, List.getElem_cons_succ, List.getElem_cons_zero]
          go_simp
          refine hK.out _ _ ?_ (fun hHeld => ?_)
          · trivial
          clear hK K
          try simp only [Act.put, List.setIfInBounds_toArray, List.set_cons_zero, List.set_cons_succ]
          refine wpAnyH_done (by kernel_rfl) ?_ _
          go_wp2
          go_roundw
          case rel =>
            refine ⟨c + 1, by omega, by go_num, ?_⟩
            obtain ⟨b, h1, h2, h3, h4⟩ := H4.out
            refine ⟨below_setRow b.drew (by omega) _, ?_, ?_, ?_, ?_⟩
            · exact (setRow_other _ _ _ _ (by omega)).trans h1
            · exact (setRow_other _ _ _ _ (by omega)).trans h2
            · exact (setRow_other _ _ _ _ (by omega)).trans h3
            · exact setRow_heap W.drew _ _ _ _ _ h4
          case measure => simp [intOf]; omega
    · obtain rfl : c = 4 := by omega
      have HF : Hid (Four w X Y Z (bc 16 R1) wr) := by
        have := HR.out
        rw [show 4 * 4 = 16 from rfl, upto_all] at this
        exact this
      clear HR hlt hc
      have K1 := hide (cU.out wr HF.out.1)
      obtain ⟨V1, hV1⟩ : ∃ V1, V1 = bc 16 R1 := ⟨_, rfl⟩
      rw [← hV1] at K1 HF
      have hV1l : V1.toArray.size = 16 := by rw [hV1, List.size_toArray, bc_len]
      have R2 : Hid (wr.heap[w.heap.size + 1 + 1 + 1]? = some (.cells V1.toArray 31 (0, 0))) := HF.out.2.2.2.2
      obtain ⟨V, hV⟩ : ∃ V, V = (bc 16 R).toArray := ⟨_, rfl⟩
      rw [← hV] at K1
      have hVl : V.size = 16 := by rw [hV, List.size_toArray, bc_len]
      have hVo : Hid (V.all (·.oneCell') = true) := by rw [hV]; exact bc_one _ _
      have HV := hide hV
      have hZl : Z.toArray.size = 16 := by rw [HZ.out, List.size_toArray, bc_len]
      clear hV hV1
      go_wp2_with (refine wpList_load_row rfl 31 _ rfl (w.heap.size + 1 + 1 + 1) rfl 31 V1.toArray (0, 0) _ R2.out Tryd.underlying31 rfl (by rw [hV1l]; rfl) ?_)
      refine (K1.out).mono ?_
      rintro e w9 ⟨rfl, b9⟩
      have H9 := hide (HF.out.later b9)
      have R1' : Hid (w9.heap[w.heap.size + 1 + 1]? = some (.cells Z.toArray 31 (0, 0))) := H9.out.2.2.2.1
      clear b9 K1 R2 hz
      go_wp2_with (refine wpList_store_row rfl 31 _ _ rfl (w.heap.size + 1 + 1) V rfl rfl 31 Z.toArray R1'.out (by rw [hVl]; rfl) (by rw [hZl, hVl]) hVo.out ?_)
      refine bodyPost_ret (v := .agg V) (results_cell_row rfl _ _ (w.heap.size + 1 + 1) 31 V (0, 0) _ rfl (setRow_heap _ _ _ _ _ _ R1'.out) Tryd.underlying31 rfl (by rw [hVl]; rfl)) rfl ⟨by rw [HV.out], ?_⟩
      exact below_setRow H9.out.1 (by omega) _
end Go.Proofs.YtlkihbmkekadeaaDoor
