/- Own: the contract of the reference's Xor (no statement is proved here). -/
import Derived.Test.YtlcjkmgeaiclbaaRefPad
namespace Go.Proofs.Ytlcjkmgeaiclbaa
open Go.ChangeShapes Go.WideShapes Go.ChangeAt Go.RowKit

theorem cells_take (zs : List UInt8) (k : Nat) (hl : k < zs.length) : bcells (zs.take (k + 1)) = bcells (zs.take k) ++ [.int .u8 ((zs.getD k 0).toNat : Int)] := by
  simp only [bcells]
  rw [List.take_add_one, List.map_append]
  simp [hl]
theorem xors_take (xs ys : List UInt8) (k : Nat) (hk : k < min xs.length ys.length) : bcells ((xors xs ys).take (k + 1)) = bcells ((xors xs ys).take k) ++ [.int .u8 (bits .xor .u8 ((xs.getD k 0).toNat : Int) ((ys.getD k 0).toNat : Int))] := by
  rw [xor_u8, ← xors_get xs ys k hk]
  exact cells_take _ k (by rw [length_xors]; exact hk)
set_option linter.unusedSimpArgs false in
set_option maxHeartbeats 1600000 in
theorem rxor_any (u v : Value) (xs ys : List UInt8) (w : World) (hu : IsB w u xs) (hv : IsB w v ys) (hn : xs.length ≤ 300) (hm : ys.length ≤ 300) :
    Calls Try.prog 34 #[u, v] w fun e w' => ∃ r, e = .returned r ∧ w'.ownsRow w.heap.size 5 1 r (min xs.length ys.length) (bcells (xors xs ys)) ∧ Below w.heap.size w w' := by
  obtain ⟨i0, hi0, hz0, hz1, hz2⟩ : ∃ i, Try.prog.info? 5 = some i ∧ i.zero = some (.int .u8 0) ∧ i.size = 1 ∧ i.bytes = 1 := ⟨_, rfl, rfl, rfl, rfl⟩
  have HI := hide hi0
  clear hi0
  obtain ⟨_, a, c, rfl, hr⟩ := hu
  obtain ⟨_, a', c', rfl, hr'⟩ := hv
  have hstep : Hid (∀ k, k < min xs.length ys.length → ∃ (b off b' off' : Nat) (x y : Int), a = some ⟨b, off, none⟩ ∧ a' = some ⟨b', off', none⟩ ∧ (∀ w', Below w.heap.size w w' → w'.cell? ⟨b, off + k, none⟩ = some (.int .u8 x)) ∧ (∀ w', Below w.heap.size w w' → w'.cell? ⟨b', off' + k, none⟩ = some (.int .u8 y)) ∧
      bcells ((xors xs ys).take (k + 1)) = bcells ((xors xs ys).take k) ++ [.int .u8 (bits .xor .u8 x y)]) := fun k hk => by
    rcases hr with h | ⟨b, off, e, hc⟩
    · omega
    rcases hr' with h | ⟨b', off', e', hc'⟩
    · omega
    exact ⟨b, off, b', off', _, _, e, e', fun w' hb => later hb (hc k (by omega)), fun w' hb => later hb (hc' k (by omega)), xors_take xs ys k hk⟩
  have hend : Hid (bcells ((xors xs ys).take (min xs.length ys.length)) = bcells (xors xs ys)) := by
    show _ = _; rw [List.take_of_length_le (by rw [length_xors]; exact Nat.le_refl _)]
  have hnil : Hid (bcells ((xors xs ys).take 0) = []) := rfl
  clear hr hr'
  obtain ⟨F, hF⟩ : ∃ F : Nat → List Value, ∀ k, F k = bcells ((xors xs ys).take k) := ⟨_, fun _ => rfl⟩
  simp only [← hF] at hstep hend hnil
  generalize bcells (xors xs ys) = Y at hend ⊢
  clear hF
  generalize xs.length = n at *
  generalize ys.length = m at *
  obtain ⟨M, hM⟩ : ∃ M, M = min n m := ⟨_, rfl⟩
  rw [← hM] at hstep hend ⊢
  have HM := hide hM
  have hMn : M ≤ n := by omega
  have hMm : M ≤ m := by omega
  clear hM
  go_enter Try.func34, Try.ntmps34
  go_wp2
  go_loopw [5, 6] (fun r i wr => ∃ k : Nat, k ≤ M ∧ i = .int .i64 k ∧ Hid (wr.ownsRow w.heap.size 5 1 r k (F k) ∧ Below w.heap.size w wr)) (fun _ i _ => M - (intOf i).toNat)
  case atStart => exact ⟨0, Nat.zero_le _, rfl, by rw [hnil.out]; exact World.ownsRow_nil _ _ _ _, Below.refl _ _⟩
  case round =>
    rename_i wr
    obtain ⟨k, hk, rfl, HR⟩ := hrel
    by_cases hlt : k < M
    · obtain ⟨b, off, b', off', x, y, rfl, rfl, cx, cy, ht⟩ := hstep.out k hlt
      have CX := hide cx
      have CY := hide cy
      have HT := hide ht
      clear cx cy ht
      have HW : Hid (wr.drew.ownsRow w.heap.size 5 1 u5 k (F k)) := HR.out.1
      have hk1 : (k : Int) < n := by omega
      have hk2 : (k : Int) < m := by omega
      have hk3 : k < n := by omega
      have hk4 : k < m := by omega
      go_wp2_with fail
      refine wp_region_held_drew (S := fun w' => w'.cell? ⟨b, off + k, none⟩ = some (.int .u8 x) ∧ w'.cell? ⟨b', off' + k, none⟩ = some (.int .u8 y)) (by kernel_rfl) ?_ (fun hHeld => ?_)
      · exact ⟨CX.out _ (HR.out.2.drew), CY.out _ (HR.out.2.drew)⟩
      refine wpAnyH_take (i := 0) (v := ?_) rfl (by kernel_rfl) (by kernel_rfl) (by kernel_rfl) (fun _ _ _ h => h) (Or.inl ⟨by rfl, ?_⟩) (by assumption) ?_
      rotate_left
      · (intro w hSw; (try dsimp only at hSw); simp only [List.getElem_toArray, List.getElem_cons_zero]; go_simp; try with_reducible rfl)
      simp only [Act.put, List.getElem_toArray, List.getElem_cons_zero, List.setIfInBounds_toArray, List.set_cons_zero, List.set_cons_succ]
      refine wpAnyH_take (i := 1) (v := ?_) rfl (by kernel_rfl) (by kernel_rfl) (by kernel_rfl) (fun _ _ _ h => h) (Or.inl ⟨by rfl, ?_⟩) (by assumption) ?_
      rotate_left
      · (intro w hSw; (try dsimp only at hSw); simp only [List.getElem_toArray, List.getElem_cons_succ, List.getElem_cons_zero]; go_simp; try with_reducible rfl)
      simp only [Act.put, List.getElem_toArray, List.getElem_cons_succ, List.getElem_cons_zero, List.setIfInBounds_toArray, List.set_cons_zero, List.set_cons_succ]
      refine wpAnyH_take (i := 2) (v := ?_) rfl (by kernel_rfl) (by kernel_rfl) (by kernel_rfl) (fun _ _ _ h => h) (Or.inl ⟨by rfl, ?_⟩) (by assumption) ?_
      rotate_left
      · (intro w hSw; (try dsimp only at hSw); simp only [List.getElem_toArray, List.getElem_cons_succ, List.getElem_cons_zero]; go_simp; try with_reducible rfl)
      simp only [Act.put, List.getElem_toArray, List.getElem_cons_succ, List.getElem_cons_zero, List.setIfInBounds_toArray, List.set_cons_zero, List.set_cons_succ]
      refine wpAnyH_take (i := 3) (v := ?_) rfl (by kernel_rfl) (by kernel_rfl) (by kernel_rfl) (fun _ _ _ h => h) (Or.inl ⟨by rfl, ?_⟩) (by assumption) ?_
      rotate_left
      · (intro w hSw; (try dsimp only at hSw); simp only [List.getElem_toArray, List.getElem_cons_succ, List.getElem_cons_zero]; go_simp; try with_reducible rfl)
      simp only [Act.put, List.getElem_toArray, List.getElem_cons_succ, List.getElem_cons_zero, List.setIfInBounds_toArray, List.set_cons_zero, List.set_cons_succ]
      refine wpAnyH_take (i := 4) (v := ?_) rfl (by kernel_rfl) (by kernel_rfl) (by kernel_rfl) (fun _ _ _ h => h) (Or.inl ⟨by rfl, ?_⟩) (by assumption) ?_
      rotate_left
      · (intro w hSw; (try dsimp only at hSw); simp only [List.getElem_toArray, List.getElem_cons_succ, List.getElem_cons_zero]; go_simp; try with_reducible rfl)
      simp only [Act.put, List.getElem_toArray, List.getElem_cons_succ, List.getElem_cons_zero, List.setIfInBounds_toArray, List.set_cons_zero, List.set_cons_succ]
      refine wpAnyH_take (i := 5) (v := ?_) rfl (by kernel_rfl) (by kernel_rfl) (by kernel_rfl) (fun _ _ _ h => h) (Or.inl ⟨by rfl, ?_⟩) (by assumption) ?_
      rotate_left
      · (intro w hSw; (try dsimp only at hSw); simp only [List.getElem_toArray, List.getElem_cons_succ, List.getElem_cons_zero]; go_simp; try with_reducible rfl)
      simp only [Act.put, List.getElem_toArray, List.getElem_cons_succ, List.getElem_cons_zero, List.setIfInBounds_toArray, List.set_cons_zero, List.set_cons_succ]
      refine wpAnyH_take (i := 6) (v := ?_) rfl (by kernel_rfl) (by kernel_rfl) (by kernel_rfl) (fun _ _ _ h => h) (Or.inl ⟨by rfl, ?_⟩) (by assumption) ?_
      rotate_left
      · (intro w hSw; (try dsimp only at hSw); simp only [List.getElem_toArray, List.getElem_cons_succ, List.getElem_cons_zero]; go_simp; try with_reducible rfl)
      simp only [Act.put, List.getElem_toArray, List.getElem_cons_succ, List.getElem_cons_zero, List.setIfInBounds_toArray, List.set_cons_zero, List.set_cons_succ]
      refine wpAnyH_take (i := 7) (v := ?_) rfl (by kernel_rfl) (by kernel_rfl) (by kernel_rfl) (fun _ _ _ h => h) (Or.inl ⟨by rfl, ?_⟩) (by assumption) ?_
      rotate_left
      · (intro w hSw; (try dsimp only at hSw); simp only [List.getElem_toArray, List.getElem_cons_succ, List.getElem_cons_zero]; go_simp; try with_reducible rfl)
      simp only [Act.put, List.getElem_toArray, List.getElem_cons_succ, List.getElem_cons_zero, List.setIfInBounds_toArray, List.set_cons_zero, List.set_cons_succ]
      refine wpAnyH_take (i := 8) (v := ?_) rfl (by kernel_rfl) (by kernel_rfl) (by kernel_rfl) (fun _ _ _ h => h) (Or.inl ⟨by rfl, ?_⟩) (by assumption) ?_
      rotate_left
      · (intro w hSw; (try dsimp only at hSw); simp only [List.getElem_toArray, List.getElem_cons_succ, List.getElem_cons_zero]; go_simp; try with_reducible rfl)
      simp only [Act.put, List.getElem_toArray, List.getElem_cons_succ, List.getElem_cons_zero, List.setIfInBounds_toArray, List.set_cons_zero, List.set_cons_succ]
      refine wpAnyH_take (i := 9) (v := ?_) rfl (by kernel_rfl) (by kernel_rfl) (by kernel_rfl) (fun _ _ _ h => h) (Or.inl ⟨by rfl, ?_⟩) (by assumption) ?_
      rotate_left
      · (intro w hSw; (try dsimp only at hSw); simp only [List.getElem_toArray, List.getElem_cons_succ, List.getElem_cons_zero]; go_simp; try with_reducible rfl)
      simp only [Act.put, List.getElem_toArray, List.getElem_cons_succ, List.getElem_cons_zero, List.setIfInBounds_toArray, List.set_cons_zero, List.set_cons_succ]
      refine wpAnyH_ready (rs := [10]) (by kernel_rfl) (by simp) ?_
      refine AllReadyH.cons rfl (fun K hK => ?_) AllReadyH.nil
      simp only [List.getElem_toArray, List.getElem_cons_succ, List.getElem_cons_zero]
      go_simp
      refine hK.out _ _ ?_ (fun hHeld => ?_)
      · exact ⟨CX.out _ (below_alloc HR.out.2.drew _), CY.out _ (below_alloc HR.out.2.drew _)⟩
      clear hK K
      try simp only [Act.put, List.setIfInBounds_toArray, List.set_cons_zero, List.set_cons_succ]
      refine wpAnyH_ready (rs := [11]) (by kernel_rfl) (by simp) ?_
      refine AllReadyH.cons rfl (fun K hK => ?_) AllReadyH.nil
      rw [if_pos (by rfl)]
      refine wp_append_own _ _ _ 22 rfl w.heap.size 5 i0 (.int .u8 0) 1 1 Try.underlying22 HI.out hz0 hz1 hz2 rfl (by decide) _ _ _ rfl (HW.out.alloc _) ⟨wr.heap.size, 0, none⟩ 1 1 [.int .u8 (bits .xor .u8 x y)] rfl rfl (cell_one_new wr.drew _ _) ?c2 ?c3 ?c4 ?c5 ?_
      case c2 => intro u hu; simp at hu; subst hu; rfl
      case c3 => unfold maxLen; omega
      case c4 => omega
      case c5 => have := HR.out.2.size; simp; omega
      intro v' w1 hown' hgrow _
      have H' := hide hown'
      have G' : Hid (Below w.heap.size w w1) := (below_alloc HR.out.2.drew _).grown hgrow (by simp; have := HR.out.2.size; omega) (fun j hj => (HR.out.1.lt j hj).1)
      clear hown' hgrow
      refine hK.out _ _ ?_ (fun hHeld => ?_)
      · exact ⟨CX.out _ G'.out, CY.out _ G'.out⟩
      clear hK K
      try simp only [Act.put, List.setIfInBounds_toArray, List.set_cons_zero, List.set_cons_succ]
      refine wpAnyH_take (i := 12) (v := ?_) rfl (by kernel_rfl) (by kernel_rfl) (by kernel_rfl) (fun _ _ _ h => h) (Or.inl ⟨by rfl, ?_⟩) (by assumption) ?_
      rotate_left
      · (intro w hSw; (try dsimp only at hSw); simp only [List.getElem_toArray, List.getElem_cons_succ, List.getElem_cons_zero]; go_simp; try with_reducible rfl)
      simp only [Act.put, List.getElem_toArray, List.getElem_cons_succ, List.getElem_cons_zero, List.setIfInBounds_toArray, List.set_cons_zero, List.set_cons_succ]
      refine wpAnyH_done (by kernel_rfl) ?_ _
      go_wp2
      go_roundw
      case rel =>
        refine ⟨k + 1, by omega, by go_num, ?_⟩
        show _ ∧ _
        rw [HT.out]
        exact ⟨H'.out, G'.out⟩
      case measure => simp [intOf]; omega
    · obtain rfl : k = M := by omega
      have HM2 := HM.out
      by_cases hnm : n ≤ m
      · have e1 : k = n := by omega
        have hk1 : decide ((k : Int) < n) = false := by simp; omega
        clear hlt HM2
        go_wp2
        go_ret
        exact ⟨_, rfl, by rw [← hend.out]; exact HR.out.1, HR.out.2⟩
      · have hk1 : (k : Int) < n := by omega
        obtain rfl : k = m := by omega
        clear hlt HM2
        go_wp2
        go_ret
        exact ⟨_, rfl, by rw [← hend.out]; exact HR.out.1, HR.out.2⟩
end Go.Proofs.Ytlcjkmgeaiclbaa
