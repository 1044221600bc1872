/- Own: Expand of layer 4 (no statement is proved here). -/
import Derived.Test.YtlkihbmkekadeaaDoorAKeyRow
namespace Go.Proofs.YtlkihbmkekadeaaDoor
open Go.ChangeShapes Go.WideShapes Go.ChangeAt Go.RowKit
set_option maxRecDepth 20000

set_option linter.unusedSimpArgs false in
set_option maxRecDepth 100000 in
set_option maxHeartbeats 4000000 in
theorem expand_core (g : Nat) (a : Option Addr) (len cap r many : Nat) (F : Nat → Nat) (w : World) (hr : 0 < r) (hr2 : r ≤ 14) (hmany : many = 4 * (r + 1))
    (cR : Hid (Calls Tryd.prog 36 #[.int .i64 (len : Nat)] w fun e w' => e = .returned (.int .i64 (r : Nat)) ∧ w' = w))
    (cE : Hid (∀ w', Below w.heap.size w w' → Calls Tryd.prog 37 #[.pointer (some ⟨g, 0, none⟩), .slice a len cap, .int .i64 (many : Nat)] w' fun e w'' => e = .returned (.agg (bc 240 F).toArray) ∧ Below w'.heap.size w' w'')) :
    Calls Tryd.prog 14 #[.pointer (some ⟨g, 0, none⟩), .slice a len cap] w fun e w' => e = .returned (.tuple #[.pointer (some ⟨w.heap.size, 0, none⟩), .int .i64 0]) ∧ Below w.heap.size w w' ∧ w'.heap[w.heap.size]? = some (.cells (keyL g r F).toArray 70 (0, 0)) := by
  have hm : 4 * ((r : Int) + 1) = (many : Int) := by omega
  have hne : ¬ (r : Int) = 0 := by omega
  have hk0 : (Tryd.zeroCells70.setIfInBounds 0 (Value.pointer (some ⟨g, 0, none⟩))).setIfInBounds 1 (Value.int IntKind.i64 (r : Nat)) = (keyL g r (upto 0 F)).toArray := by
    have e : upto 0 F = fun _ => 0 := funext fun i => by unfold upto; rw [if_neg (by omega)]
    rw [e]; rfl
  clear hmany
  go_enter Tryd.func14, Tryd.ntmps14
  go_wp2_with fail
  refine (cR.out).mono ?_
  rintro e w' ⟨rfl, hw⟩
  rw [hw]
  clear hw
  go_wp2_with fail
  have b0 := below_alloc (Below.refl w.heap.size w) (.cells (keyL g r (upto 0 F)).toArray 70)
  have n0 : (w.alloc (.cells (keyL g r (upto 0 F)).toArray 70)).heap[w.heap.size]? = some (.cells (keyL g r (upto 0 F)).toArray 70 (0, 0)) := heap_alloc_new _ _
  refine (cE.out _ b0).mono ?_
  rintro e w2 ⟨rfl, b2⟩
  have HS : Hid (Below w.heap.size w w2 ∧ w2.heap[w.heap.size]? = some (.cells (keyL g r (upto 0 F)).toArray 70 (0, 0))) := ⟨below_two b0 b2, (b2.block _ (Array.getElem?_eq_some_iff.1 n0).1).trans n0⟩
  obtain ⟨X, hX⟩ : ∃ X, X = bc 240 F := ⟨_, rfl⟩
  obtain ⟨Y, hY⟩ : ∃ Y, Y = (keyL g r (upto 0 F)).toArray := ⟨_, rfl⟩
  rw [← hX, ← hY]
  have hix : Hid (∀ i, i < 60 → ∀ w, (Instr.index 73 (.agg X.toArray) (.int .i64 (i : Nat))).run Tryd.prog w = .ok (.agg (bc 4 fun r => F (4 * i + r)).toArray) w) := fun i hi w => by rw [hX]; exact index_mid F i hi w
  clear hX hY hk0 b0 n0 b2 cR cE hm hne
  go_wp2_with fail
  go_loopw [27] (fun v wr => ∃ i : Nat, i ≤ 60 ∧ v = .int .i64 i ∧ Hid (Below w.heap.size w wr ∧ wr.heap[w.heap.size]? = some (.cells (keyL g r (upto (4 * i) F)).toArray 70 (0, 0)))) (fun v _ => 60 - (intOf v).toNat)
  case atStart => exact ⟨0, by omega, rfl, HS⟩
  case round =>
    obtain ⟨i, hi, rfl, HR⟩ := hrel
    by_cases hlt : i < 60
    · have hx := hix.out i hlt
      have hd : decide ((i : Int) < 60) = true := decide_eq_true (by omega)
      obtain ⟨A, hA⟩ : ∃ A, A = bc 4 (fun r => F (4 * i + r)) := ⟨_, rfl⟩
      rw [← hA] at hx
      have sA : A.toArray.size = 4 := by rw [hA, List.size_toArray, bc_len]
      have oA : Hid (A.toArray.all (·.oneCell') = true) := by rw [hA]; exact bc_one _ _
      have HA := hide hA
      have hz4 := zero4
      obtain ⟨Z4, hZ4⟩ : ∃ Z4, Z4 = bc 4 (fun _ => 0) := ⟨_, rfl⟩
      rw [← hZ4] at hz4
      have sZ4 : Z4.toArray.size = 4 := by rw [hZ4, List.size_toArray, bc_len]
      clear hA hZ4 HS
      go_wp2_with (refine wpList_store_row rfl 71 _ _ rfl wr.heap.size A.toArray rfl rfl 71 _ (heap_alloc_new _ _) (by rw [sA]; rfl) (by rw [sA, sZ4]) oA.out ?_)
      obtain ⟨nb, nr⟩ := new_row wr Z4.toArray A.toArray 71
      obtain ⟨W, hW⟩ : ∃ W, W = (wr.alloc (.cells Z4.toArray 71)).setRow wr.heap.size A.toArray := ⟨_, rfl⟩
      obtain ⟨q, hq⟩ : ∃ q, q = wr.heap.size := ⟨_, rfl⟩
      have BW : Below w.heap.size w W := by rw [hW]; exact below_two HR.out.1 nb
      have RW : W.heap[w.heap.size]? = some (.cells (keyL g r (upto (4 * i) F)).toArray 70 (0, 0)) := by
        rw [hW]; exact (nb.block _ (Array.getElem?_eq_some_iff.1 HR.out.2).1).trans HR.out.2
      rw [← hW] at nr ⊢
      rw [← hq] at nr ⊢
      obtain ⟨c, hc⟩ : ∃ c, c = i / 4 := ⟨_, rfl⟩
      obtain ⟨d, hdm⟩ : ∃ d, d = i % 4 := ⟨_, rfl⟩
      obtain ⟨e4, he4⟩ : ∃ e4, e4 = d * 4 := ⟨_, rfl⟩
      obtain ⟨n, hn⟩ : ∃ n, n = 16 - e4 := ⟨_, rfl⟩
      obtain ⟨o, ho⟩ : ∃ o, o = 2 + c * 16 + e4 := ⟨_, rfl⟩
      have hcp := copy_key W.drew w.heap.size q i o n n g r hlt (by omega) (by omega) F 70 71 RW (by rw [← HA.out]; exact nr)
      have B2 := hide (below_setRow BW.drew (Nat.le_refl _) (keyL g r (upto (4 * i + 4) F)).toArray)
      have R2 := hide (setRow_heap W.drew w.heap.size (keyL g r (upto (4 * i) F)).toArray (keyL g r (upto (4 * i + 4) F)).toArray 70 (0, 0) RW)
      obtain ⟨V, hV⟩ : ∃ V, V = (keyL g r (upto (4 * i + 4) F)).toArray := ⟨_, rfl⟩
      rw [← hV] at hcp B2 R2
      have HV := hide hV
      have j1 : (i : Int).tdiv 4 = (c : Int) := by rw [Int.tdiv_eq_ediv_of_nonneg (by omega)]; omega
      have j2 : (i : Int) / 4 = (c : Int) := by omega
      have j3 : (i : Int).tmod 4 = (d : Int) := by rw [Int.tmod_eq_emod_of_nonneg (by omega)]; omega
      have j4 : (i : Int) % 4 = (d : Int) := by omega
      have j5 : (d : Int) * 4 = (e4 : Int) := by omega
      have j6 : IntKind.i64.wrap (c : Int) = (c : Int) := by rw [IntKind.wrap_i64]; omega
      have j7 : IntKind.i64.wrap ((d : Int) * 4) = (e4 : Int) := by rw [IntKind.wrap_i64]; omega
      have j17 : IntKind.i64.wrap (e4 : Int) = (e4 : Int) := by rw [IntKind.wrap_i64]; omega
      have j8 : IntKind.i64.wrap (d : Int) = (d : Int) := by rw [IntKind.wrap_i64]; omega
      have j9 : (c : Int) < 15 := by omega
      have j10 : (e4 : Int) ≤ 16 := by omega
      have j11 : (16 - (e4 : Int)).toNat = n := by omega
      have j12 : 16 - e4 = n := hn.symm
      have j13 : ¬ 16 = e4 := by omega
      have j14 : 2 + c * 16 + e4 = o := ho.symm
      have j15 : e4 ≤ 16 := by omega
      have j16 : c < 15 := by omega
      clear hV BW RW nr nb hW hq hz4 sZ4 oA sA hx hix hc hdm he4 hn ho
      refine wp_region_held_drew (S := fun _ => True) (by kernel_rfl) ?_ (fun hHeld => ?_)
      · trivial
      refine wpAnyH_take (i := 0) (v := ?_) rfl (by kernel_rfl) (by kernel_rfl) (by kernel_rfl) (fun _ _ _ h => h) (Or.inl ⟨by rfl, ?_⟩) (by assumption) ?_
      rotate_left
      · (intro w hSw; (try dsimp only at hSw); simp only [List.getElem_toArray, List.getElem_cons_zero]; go_simp; try with_reducible rfl)
      simp only [Act.put, List.getElem_toArray, List.getElem_cons_zero, List.setIfInBounds_toArray, List.set_cons_zero, List.set_cons_succ]
      refine wpAnyH_take (i := 1) (v := ?_) rfl (by kernel_rfl) (by kernel_rfl) (by kernel_rfl) (fun _ _ _ h => h) (Or.inl ⟨by rfl, ?_⟩) (by assumption) ?_
      rotate_left
      · (intro w hSw; (try dsimp only at hSw); simp only [List.getElem_toArray, List.getElem_cons_succ, List.getElem_cons_zero]; go_simp; try with_reducible rfl)
      simp only [Act.put, List.getElem_toArray, List.getElem_cons_succ, List.getElem_cons_zero, List.setIfInBounds_toArray, List.set_cons_zero, List.set_cons_succ]
      refine wpAnyH_take (i := 2) (v := ?_) rfl (by kernel_rfl) (by kernel_rfl) (by kernel_rfl) (fun _ _ _ h => h) (Or.inl ⟨by rfl, ?_⟩) (by assumption) ?_
      rotate_left
      · (intro w hSw; (try dsimp only at hSw); simp only [List.getElem_toArray, List.getElem_cons_succ, List.getElem_cons_zero]; go_simp; try with_reducible rfl)
      simp only [Act.put, List.getElem_toArray, List.getElem_cons_succ, List.getElem_cons_zero, List.setIfInBounds_toArray, List.set_cons_zero, List.set_cons_succ]
      refine wpAnyH_take (i := 3) (v := ?_) rfl (by kernel_rfl) (by kernel_rfl) (by kernel_rfl) (fun _ _ _ h => h) (Or.inl ⟨by rfl, ?_⟩) (by assumption) ?_
      rotate_left
      · (intro w hSw; (try dsimp only at hSw); simp only [List.getElem_toArray, List.getElem_cons_succ, List.getElem_cons_zero]; go_simp; try with_reducible rfl)
      simp only [Act.put, List.getElem_toArray, List.getElem_cons_succ, List.getElem_cons_zero, List.setIfInBounds_toArray, List.set_cons_zero, List.set_cons_succ]
      refine wpAnyH_take (i := 4) (v := ?_) rfl (by kernel_rfl) (by kernel_rfl) (by kernel_rfl) (fun _ _ _ h => h) (Or.inl ⟨by rfl, ?_⟩) (by assumption) ?_
      rotate_left
      · (intro w hSw; (try dsimp only at hSw); simp only [List.getElem_toArray, List.getElem_cons_succ, List.getElem_cons_zero]; go_simp; try with_reducible rfl)
      simp only [Act.put, List.getElem_toArray, List.getElem_cons_succ, List.getElem_cons_zero, List.setIfInBounds_toArray, List.set_cons_zero, List.set_cons_succ]
      refine wpAnyH_take (i := 5) (v := ?_) rfl (by kernel_rfl) (by kernel_rfl) (by kernel_rfl) (fun _ _ _ h => h) (Or.inl ⟨by rfl, ?_⟩) (by assumption) ?_
      rotate_left
      · (intro w hSw; (try dsimp only at hSw); simp only [List.getElem_toArray, List.getElem_cons_succ, List.getElem_cons_zero]; go_simp; try with_reducible rfl)
      simp only [Act.put, List.getElem_toArray, List.getElem_cons_succ, List.getElem_cons_zero, List.setIfInBounds_toArray, List.set_cons_zero, List.set_cons_succ]
      refine wpAnyH_take (i := 6) (v := ?_) rfl (by kernel_rfl) (by kernel_rfl) (by kernel_rfl) (fun _ _ _ h => h) (Or.inl ⟨by rfl, ?_⟩) (by assumption) ?_
      rotate_left
      · (intro w hSw; (try dsimp only at hSw); simp only [List.getElem_toArray, List.getElem_cons_succ, List.getElem_cons_zero]; go_simp; try with_reducible rfl)
      simp only [Act.put, List.getElem_toArray, List.getElem_cons_succ, List.getElem_cons_zero, List.setIfInBounds_toArray, List.set_cons_zero, List.set_cons_succ]
      refine wpAnyH_take (i := 7) (v := ?_) rfl (by kernel_rfl) (by kernel_rfl) (by kernel_rfl) (fun _ _ _ h => h) (Or.inl ⟨by rfl, ?_⟩) (by assumption) ?_
      rotate_left
      · (intro w hSw; (try dsimp only at hSw); simp only [List.getElem_toArray, List.getElem_cons_succ, List.getElem_cons_zero]; go_simp; try with_reducible rfl)
      simp only [Act.put, List.getElem_toArray, List.getElem_cons_succ, List.getElem_cons_zero, List.setIfInBounds_toArray, List.set_cons_zero, List.set_cons_succ]
      refine wpAnyH_take (i := 8) (v := ?_) rfl (by kernel_rfl) (by kernel_rfl) (by kernel_rfl) (fun _ _ _ h => h) (Or.inl ⟨by rfl, ?_⟩) (by assumption) ?_
      rotate_left
      · (intro w hSw; (try dsimp only at hSw); simp only [List.getElem_toArray, List.getElem_cons_succ, List.getElem_cons_zero]; go_simp; try with_reducible rfl)
      simp only [Act.put, List.getElem_toArray, List.getElem_cons_succ, List.getElem_cons_zero, List.setIfInBounds_toArray, List.set_cons_zero, List.set_cons_succ]
      refine wpAnyH_take (i := 9) (v := ?_) rfl (by kernel_rfl) (by kernel_rfl) (by kernel_rfl) (fun _ _ _ h => h) (Or.inl ⟨by rfl, ?_⟩) (by assumption) ?_
      rotate_left
      · (intro w hSw; (try dsimp only at hSw); simp only [List.getElem_toArray, List.getElem_cons_succ, List.getElem_cons_zero]; go_simp; try with_reducible rfl)
      simp only [Act.put, List.getElem_toArray, List.getElem_cons_succ, List.getElem_cons_zero, List.setIfInBounds_toArray, List.set_cons_zero, List.set_cons_succ]
      refine wpAnyH_take (i := 10) (v := ?_) rfl (by kernel_rfl) (by kernel_rfl) (by kernel_rfl) (fun _ _ _ h => h) (Or.inl ⟨by rfl, ?_⟩) (by assumption) ?_
      rotate_left
      · (intro w hSw; (try dsimp only at hSw); simp only [List.getElem_toArray, List.getElem_cons_succ, List.getElem_cons_zero]; go_simp; try with_reducible rfl)
      simp only [Act.put, List.getElem_toArray, List.getElem_cons_succ, List.getElem_cons_zero, List.setIfInBounds_toArray, List.set_cons_zero, List.set_cons_succ]
      refine wpAnyH_ready (rs := [11]) (by kernel_rfl) (by simp) ?_
      refine AllReadyH.cons rfl (fun K hK => ?_) AllReadyH.nil
      simp only [List.getElem_toArray, List.getElem_cons_succ, List.getElem_cons_zero]
      go_simp
      refine hK.out _ _ ?_ (fun hHeld => ?_)
      · trivial
      clear hK K
      try simp only [Act.put, List.setIfInBounds_toArray, List.set_cons_zero, List.set_cons_succ]
      refine wpAnyH_done (by kernel_rfl) ?_ _
      clear hcp
      go_wp2_with fail
      go_roundw
      case rel =>
        refine ⟨i + 1, by omega, by go_num, B2.out, ?_⟩
        rw [show 4 * (i + 1) = 4 * i + 4 by omega, ← HV.out]
        exact R2.out
      case measure => simp [intOf]; omega
    · obtain rfl : i = 60 := by omega
      have hd : decide (((60 : Nat) : Int) < 60) = false := rfl
      go_wp2_with fail
      refine bodyPost_ret (v := .tuple #[.pointer (some ⟨w.heap.size, 0, none⟩), .int .i64 0]) (by simp [results, Tryd.results14, go_sem]) rfl ⟨rfl, HR.out.1, ?_⟩
      have e : keyL g r (upto (4 * 60) F) = keyL g r F := by
        unfold keyL
        rw [bc_congr fun j hj => show upto (4 * 60) F j = F j by unfold upto; rw [if_pos hj]]
      rw [← e]
      exact HR.out.2
set_option maxRecDepth 100000 in
theorem expand_any (g : Nat) (v : Value) (bs : List UInt8) (w : World) (hv : IsB w v bs) (ht : IsTab w g) (r : Nat) (hr : nrnd bs.length = r) (hr0 : r ≠ 0) :
    Calls Tryd.prog 14 #[.pointer (some ⟨g, 0, none⟩), v] w fun e w' => e = .returned (.tuple #[.pointer (some ⟨w.heap.size, 0, none⟩), .int .i64 0]) ∧ Below w.heap.size w w' ∧ w'.heap[w.heap.size]? = some (.cells (keyL g r (eb (lf bs) (bs.length / 4) (4 * (r + 1) - bs.length / 4))).toArray 70 (0, 0)) := by
  obtain ⟨h0, a, cap, rfl, h1⟩ := hv
  have hv : IsB w (.slice a bs.length cap) bs := ⟨h0, a, cap, rfl, h1⟩
  have hcase : (bs.length = 16 ∧ r = 10) ∨ (bs.length = 24 ∧ r = 12) ∨ (bs.length = 32 ∧ r = 14) := by
    unfold nrnd at hr; split at hr
    · omega
    · split at hr
      · omega
      · split at hr <;> omega
  exact expand_core g a bs.length cap r (4 * (r + 1)) _ w (by omega) (by omega) rfl (by have := roundsOf_any bs.length w; rw [hr] at this; exact this)
    (fun w' hb => expanded_any g _ bs (bs.length / 4) (4 * (r + 1)) w' (hv.later hb) (ht.later hb) (by omega) (by omega) (by omega) (by omega))
end Go.Proofs.YtlkihbmkekadeaaDoor
