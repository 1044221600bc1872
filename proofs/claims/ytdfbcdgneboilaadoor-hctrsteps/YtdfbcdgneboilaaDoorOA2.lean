/- Own: Expand of layer 4; Expand of layer 4; Rounds and At of layer 4, and what Expand refuses; the contracts of Xor and Same of layer 1; the contracts of Block and of the reference's Block of layer 1; sum of layer 4 (no statement is proved here). -/
import Derived.Test.YtdfbcdgneboilaaDoorOA1
namespace Go.Proofs.YtdfbcdgneboilaaDoor
open Go.ChangeShapes Go.WideShapes Go.ChangeAt Go.RowKit
set_option maxRecDepth 20000

theorem bc_split (m n : Nat) (f : Nat → Nat) : bc (m + n) f = bc m f ++ bc n fun j => f (m + j) := by
  unfold bc; rw [List.range_add, List.map_append, List.map_map]; rfl
theorem bc_mid (a b n : Nat) (hn : n = a + (4 + b)) (F : Nat → Nat) : (bc n (upto a F)).take a ++ bc 4 (fun x => F (a + x)) ++ (bc n (upto a F)).drop (a + 4) = bc n (upto (a + 4) F) := by
  subst hn
  have e1 : bc (a + (4 + b)) (upto a F) = bc a (upto a F) ++ (bc 4 (fun j => upto a F (a + j)) ++ bc b (fun j => upto a F (a + (4 + j)))) := by rw [bc_split, bc_split]
  have e2 : bc (a + (4 + b)) (upto (a + 4) F) = bc a (upto (a + 4) F) ++ (bc 4 (fun j => upto (a + 4) F (a + j)) ++ bc b (fun j => upto (a + 4) F (a + (4 + j)))) := by rw [bc_split, bc_split]
  rw [e1, e2, List.take_left' (bc_len _ _), ← List.append_assoc, List.drop_left' (by rw [List.length_append, bc_len, bc_len]), List.append_assoc]
  congr 1
  · exact bc_congr fun i hi => by unfold upto; rw [if_pos hi, if_pos (by omega)]
  · congr 1
    · exact bc_congr fun i hi => by unfold upto; rw [if_pos (by omega)]
    · exact bc_congr fun i hi => by unfold upto; rw [if_neg (by omega), if_neg (by omega)]
/-- A Key's cells. -/
def keyL (g r : Nat) (F : Nat → Nat) : List Value := .pointer (some ⟨g, 0, none⟩) :: .int .i64 (r : Nat) :: bc 240 F
theorem keyL_len (g r : Nat) (F : Nat → Nat) : (keyL g r F).length = 242 := by unfold keyL; rw [List.length_cons, List.length_cons, bc_len]
theorem keyL_mid (g r a : Nat) (ha : a + 4 ≤ 240) (F : Nat → Nat) : (keyL g r (upto a F)).take (2 + a) ++ bc 4 (fun x => F (a + x)) ++ (keyL g r (upto a F)).drop (2 + a + 4) = keyL g r (upto (a + 4) F) := by
  unfold keyL
  rw [show 2 + a = a + 1 + 1 by omega, show a + 1 + 1 + 4 = a + 4 + 1 + 1 by omega, List.take_succ_cons, List.take_succ_cons, List.drop_succ_cons, List.drop_succ_cons, List.cons_append, List.cons_append, List.cons_append, List.cons_append, bc_mid a (236 - a) 240 (by omega)]
theorem copy_key (W : World) (G q i o n m g r : Nat) (hi : i < 60) (ho : o = 2 + 4 * i) (hn : 4 ≤ n) (F : Nat → Nat) (t t' : TypeId) (hg : W.heap[G]? = some (.cells (keyL g r (upto (4 * i) F)).toArray t (0, 0))) (hq : W.heap[q]? = some (.cells (bc 4 fun x => F (4 * i + x)).toArray t' (0, 0))) :
    (Builtin.copy_ #[22, 22] 3 #[.slice (some ⟨G, o, none⟩) n m, .slice (some ⟨q, 0, none⟩) 4 4]).run Tryd.prog W = .ok (goInt 4) (W.setRow G (keyL g r (upto (4 * i + 4) F)).toArray) := by
  subst ho
  have h := run_copy_row (P := Tryd.prog) W 22 22 3 5 G (2 + 4 * i) n m ⟨q, 0, none⟩ 4 4 (keyL g r (upto (4 * i) F)).toArray t (bc 4 fun x => F (4 * i + x)) Tryd.underlying22 rfl hg (by rw [bc_len]; show _ = min _ _; omega)
    (fun j v hj => by rw [addr_add, cell_of_row W q _ _ _ _ hq]; simpa using hj) (by rw [bc_len, List.size_toArray, keyL_len]; omega) (fun v hv => by unfold bc at hv; obtain ⟨i, _, rfl⟩ := List.mem_map.1 hv; rfl)
  rw [bc_len] at h
  rw [← keyL_mid g r (4 * i) (by omega) F]
  exact h
theorem bc_extract (F : Nat → Nat) (i : Nat) (hi : i < 60) : (bc 240 F).toArray.extract (i * 4) (i * 4 + 4) = (bc 4 fun r => F (4 * i + r)).toArray := by
  have e : bc 240 F = bc (4 * i) F ++ (bc 4 (fun j => F (4 * i + j)) ++ bc (236 - 4 * i) (fun j => F (4 * i + (4 + j)))) := by
    rw [← bc_split 4 (236 - 4 * i) fun j => F (4 * i + j), ← bc_split (4 * i) (4 + (236 - 4 * i)) F, show 4 * i + (4 + (236 - 4 * i)) = 240 by omega]
  rw [e, List.extract_toArray]
  congr 1
  rw [List.extract_eq_take_drop, List.drop_left' (by rw [bc_len]; omega), List.take_left' (by rw [bc_len]; omega)]
theorem index_mid (F : Nat → Nat) (i : Nat) (hi : i < 60) (w : World) : (Instr.index 64 (.agg (bc 240 F).toArray) (.int .i64 (i : Nat))).run Tryd.prog w = .ok (.agg (bc 4 fun r => F (4 * i + r)).toArray) w := by
  rw [← bc_extract F i hi]
  generalize (bc 240 F).toArray = cs
  have h : (0 : Int) ≤ (i : Int) ∧ (i : Int) < ((60 : Nat) : Int) := by omega
  have hs : (sizeOf 62).run Tryd.prog w = .ok 4 w := by kernel_rfl
  have hp : (_root_.Go.part 62 cs (i * 4)).run Tryd.prog w = .ok (.agg (cs.extract (i * 4) (i * 4 + 4))) w := by rfl
  simp [Instr.index, run_underlying Tryd.underlying64, asIntOf, hs, hp, hi]
end Go.Proofs.YtdfbcdgneboilaaDoor
namespace Go.Proofs.YtdfbcdgneboilaaDoor
open Go.ChangeShapes Go.WideShapes Go.ChangeAt Go.RowKit
set_option maxRecDepth 20000

set_option linter.unusedSimpArgs false in
set_option maxRecDepth 100000 in
set_option maxHeartbeats 4000000 in
theorem expand_core (g : Nat) (a : Option Addr) (len cap r many : Nat) (F : Nat → Nat) (w : World) (hr : 0 < r) (hr2 : r ≤ 14) (hmany : many = 4 * (r + 1))
    (cR : Hid (Calls Tryd.prog 29 #[.int .i64 (len : Nat)] w fun e w' => e = .returned (.int .i64 (r : Nat)) ∧ w' = w))
    (cE : Hid (∀ w', Below w.heap.size w w' → Calls Tryd.prog 30 #[.pointer (some ⟨g, 0, none⟩), .slice a len cap, .int .i64 (many : Nat)] w' fun e w'' => e = .returned (.agg (bc 240 F).toArray) ∧ Below w'.heap.size w' w'')) :
    Calls Tryd.prog 16 #[.pointer (some ⟨g, 0, none⟩), .slice a len cap] w fun e w' => e = .returned (.tuple #[.pointer (some ⟨w.heap.size, 0, none⟩), .int .i64 0]) ∧ Below w.heap.size w w' ∧ w'.heap[w.heap.size]? = some (.cells (keyL g r F).toArray 61 (0, 0)) := by
  have hm : 4 * ((r : Int) + 1) = (many : Int) := by omega
  have hne : ¬ (r : Int) = 0 := by omega
  have hk0 : (Tryd.zeroCells61.setIfInBounds 0 (Value.pointer (some ⟨g, 0, none⟩))).setIfInBounds 1 (Value.int IntKind.i64 (r : Nat)) = (keyL g r (upto 0 F)).toArray := by
    have e : upto 0 F = fun _ => 0 := funext fun i => by unfold upto; rw [if_neg (by omega)]
    rw [e]; rfl
  clear hmany
  go_enter Tryd.func16, Tryd.ntmps16
  go_wp2_with fail
  refine (cR.out).mono ?_
  rintro e w' ⟨rfl, hw⟩
  rw [hw]
  clear hw
  go_wp2_with fail
  have b0 := below_alloc (Below.refl w.heap.size w) (.cells (keyL g r (upto 0 F)).toArray 61)
  have n0 : (w.alloc (.cells (keyL g r (upto 0 F)).toArray 61)).heap[w.heap.size]? = some (.cells (keyL g r (upto 0 F)).toArray 61 (0, 0)) := heap_alloc_new _ _
  refine (cE.out _ b0).mono ?_
  rintro e w2 ⟨rfl, b2⟩
  have HS : Hid (Below w.heap.size w w2 ∧ w2.heap[w.heap.size]? = some (.cells (keyL g r (upto 0 F)).toArray 61 (0, 0))) := ⟨below_two b0 b2, (b2.block _ (Array.getElem?_eq_some_iff.1 n0).1).trans n0⟩
  obtain ⟨X, hX⟩ : ∃ X, X = bc 240 F := ⟨_, rfl⟩
  obtain ⟨Y, hY⟩ : ∃ Y, Y = (keyL g r (upto 0 F)).toArray := ⟨_, rfl⟩
  rw [← hX, ← hY]
  have hix : Hid (∀ i, i < 60 → ∀ w, (Instr.index 64 (.agg X.toArray) (.int .i64 (i : Nat))).run Tryd.prog w = .ok (.agg (bc 4 fun r => F (4 * i + r)).toArray) w) := fun i hi w => by rw [hX]; exact index_mid F i hi w
  clear hX hY hk0 b0 n0 b2 cR cE hm hne
  go_wp2_with fail
  go_loopw [27] (fun v wr => ∃ i : Nat, i ≤ 60 ∧ v = .int .i64 i ∧ Hid (Below w.heap.size w wr ∧ wr.heap[w.heap.size]? = some (.cells (keyL g r (upto (4 * i) F)).toArray 61 (0, 0)))) (fun v _ => 60 - (intOf v).toNat)
  case atStart => exact ⟨0, by omega, rfl, HS⟩
  case round =>
    obtain ⟨i, hi, rfl, HR⟩ := hrel
    by_cases hlt : i < 60
    · have hx := hix.out i hlt
      have hd : decide ((i : Int) < 60) = true := decide_eq_true (by omega)
      obtain ⟨A, hA⟩ : ∃ A, A = bc 4 (fun r => F (4 * i + r)) := ⟨_, rfl⟩
      rw [← hA] at hx
      have sA : A.toArray.size = 4 := by rw [hA, List.size_toArray, bc_len]
      have oA : Hid (A.toArray.all (·.oneCell') = true) := by rw [hA]; exact bc_one _ _
      have HA := hide hA
      have hz4 := zero4
      obtain ⟨Z4, hZ4⟩ : ∃ Z4, Z4 = bc 4 (fun _ => 0) := ⟨_, rfl⟩
      rw [← hZ4] at hz4
      have sZ4 : Z4.toArray.size = 4 := by rw [hZ4, List.size_toArray, bc_len]
      clear hA hZ4 HS
      go_wp2_with (refine wpList_store_row rfl 62 _ _ rfl wr.heap.size A.toArray rfl rfl 62 _ (heap_alloc_new _ _) (by rw [sA]; rfl) (by rw [sA, sZ4]) oA.out ?_)
      obtain ⟨nb, nr⟩ := new_row wr Z4.toArray A.toArray 62
      obtain ⟨W, hW⟩ : ∃ W, W = (wr.alloc (.cells Z4.toArray 62)).setRow wr.heap.size A.toArray := ⟨_, rfl⟩
      obtain ⟨q, hq⟩ : ∃ q, q = wr.heap.size := ⟨_, rfl⟩
      have BW : Below w.heap.size w W := by rw [hW]; exact below_two HR.out.1 nb
      have RW : W.heap[w.heap.size]? = some (.cells (keyL g r (upto (4 * i) F)).toArray 61 (0, 0)) := by
        rw [hW]; exact (nb.block _ (Array.getElem?_eq_some_iff.1 HR.out.2).1).trans HR.out.2
      rw [← hW] at nr ⊢
      rw [← hq] at nr ⊢
      obtain ⟨c, hc⟩ : ∃ c, c = i / 4 := ⟨_, rfl⟩
      obtain ⟨d, hdm⟩ : ∃ d, d = i % 4 := ⟨_, rfl⟩
      obtain ⟨e4, he4⟩ : ∃ e4, e4 = d * 4 := ⟨_, rfl⟩
      obtain ⟨n, hn⟩ : ∃ n, n = 16 - e4 := ⟨_, rfl⟩
      obtain ⟨o, ho⟩ : ∃ o, o = 2 + c * 16 + e4 := ⟨_, rfl⟩
      have hcp := copy_key W.drew w.heap.size q i o n n g r hlt (by omega) (by omega) F 61 62 RW (by rw [← HA.out]; exact nr)
      have B2 := hide (below_setRow BW.drew (Nat.le_refl _) (keyL g r (upto (4 * i + 4) F)).toArray)
      have R2 := hide (setRow_heap W.drew w.heap.size (keyL g r (upto (4 * i) F)).toArray (keyL g r (upto (4 * i + 4) F)).toArray 61 (0, 0) RW)
      obtain ⟨V, hV⟩ : ∃ V, V = (keyL g r (upto (4 * i + 4) F)).toArray := ⟨_, rfl⟩
      rw [← hV] at hcp B2 R2
      have HV := hide hV
      have j1 : (i : Int).tdiv 4 = (c : Int) := by rw [Int.tdiv_eq_ediv_of_nonneg (by omega)]; omega
      have j2 : (i : Int) / 4 = (c : Int) := by omega
      have j3 : (i : Int).tmod 4 = (d : Int) := by rw [Int.tmod_eq_emod_of_nonneg (by omega)]; omega
      have j4 : (i : Int) % 4 = (d : Int) := by omega
      have j5 : (d : Int) * 4 = (e4 : Int) := by omega
      have j6 : IntKind.i64.wrap (c : Int) = (c : Int) := by rw [IntKind.wrap_i64]; omega
      have j7 : IntKind.i64.wrap ((d : Int) * 4) = (e4 : Int) := by rw [IntKind.wrap_i64]; omega
      have j17 : IntKind.i64.wrap (e4 : Int) = (e4 : Int) := by rw [IntKind.wrap_i64]; omega
      have j8 : IntKind.i64.wrap (d : Int) = (d : Int) := by rw [IntKind.wrap_i64]; omega
      have j9 : (c : Int) < 15 := by omega
      have j10 : (e4 : Int) ≤ 16 := by omega
      have j11 : (16 - (e4 : Int)).toNat = n := by omega
      have j12 : 16 - e4 = n := hn.symm
      have j13 : ¬ 16 = e4 := by omega
      have j14 : 2 + c * 16 + e4 = o := ho.symm
      have j15 : e4 ≤ 16 := by omega
      have j16 : c < 15 := by omega
      clear hV BW RW nr nb hW hq hz4 sZ4 oA sA hx hix hc hdm he4 hn ho
      refine wp_region_held_drew (S := fun _ => True) (by kernel_rfl) ?_ (fun hHeld => ?_)
      · trivial
      refine wpAnyH_take (i := 0) (v := ?_) rfl (by kernel_rfl) (by kernel_rfl) (by kernel_rfl) (fun _ _ _ h => h) (Or.inl ⟨by rfl, ?_⟩) (by assumption) ?_
      rotate_left
      · (intro w hSw; (try dsimp only at hSw); simp only [List.getElem_toArray, List.getElem_cons_zero]; go_simp; try with_reducible rfl)
      simp only [Act.put, List.getElem_toArray, List.getElem_cons_zero, List.setIfInBounds_toArray, List.set_cons_zero, List.set_cons_succ]
      refine wpAnyH_take (i := 1) (v := ?_) rfl (by kernel_rfl) (by kernel_rfl) (by kernel_rfl) (fun _ _ _ h => h) (Or.inl ⟨by rfl, ?_⟩) (by assumption) ?_
      rotate_left
      · (intro w hSw; (try dsimp only at hSw); simp only [List.getElem_toArray, List.getElem_cons_succ, List.getElem_cons_zero]; go_simp; try with_reducible rfl)
      simp only [Act.put, List.getElem_toArray, List.getElem_cons_succ, List.getElem_cons_zero, List.setIfInBounds_toArray, List.set_cons_zero, List.set_cons_succ]
      refine wpAnyH_take (i := 2) (v := ?_) rfl (by kernel_rfl) (by kernel_rfl) (by kernel_rfl) (fun _ _ _ h => h) (Or.inl ⟨by rfl, ?_⟩) (by assumption) ?_
      rotate_left
      · (intro w hSw; (try dsimp only at hSw); simp only [List.getElem_toArray, List.getElem_cons_succ, List.getElem_cons_zero]; go_simp; try with_reducible rfl)
      simp only [Act.put, List.getElem_toArray, List.getElem_cons_succ, List.getElem_cons_zero, List.setIfInBounds_toArray, List.set_cons_zero, List.set_cons_succ]
      refine wpAnyH_take (i := 3) (v := ?_) rfl (by kernel_rfl) (by kernel_rfl) (by kernel_rfl) (fun _ _ _ h => h) (Or.inl ⟨by rfl, ?_⟩) (by assumption) ?_
      rotate_left
      · (intro w hSw; (try dsimp only at hSw); simp only [List.getElem_toArray, List.getElem_cons_succ, List.getElem_cons_zero]; go_simp; try with_reducible rfl)
      simp only [Act.put, List.getElem_toArray, List.getElem_cons_succ, List.getElem_cons_zero, List.setIfInBounds_toArray, List.set_cons_zero, List.set_cons_succ]
      refine wpAnyH_take (i := 4) (v := ?_) rfl (by kernel_rfl) (by kernel_rfl) (by kernel_rfl) (fun _ _ _ h => h) (Or.inl ⟨by rfl, ?_⟩) (by assumption) ?_
      rotate_left
      · (intro w hSw; (try dsimp only at hSw); simp only [List.getElem_toArray, List.getElem_cons_succ, List.getElem_cons_zero]; go_simp; try with_reducible rfl)
      simp only [Act.put, List.getElem_toArray, List.getElem_cons_succ, List.getElem_cons_zero, List.setIfInBounds_toArray, List.set_cons_zero, List.set_cons_succ]
      refine wpAnyH_take (i := 5) (v := ?_) rfl (by kernel_rfl) (by kernel_rfl) (by kernel_rfl) (fun _ _ _ h => h) (Or.inl ⟨by rfl, ?_⟩) (by assumption) ?_
      rotate_left
      · (intro w hSw; (try dsimp only at hSw); simp only [List.getElem_toArray, List.getElem_cons_succ, List.getElem_cons_zero]; go_simp; try with_reducible rfl)
      simp only [Act.put, List.getElem_toArray, List.getElem_cons_succ, List.getElem_cons_zero, List.setIfInBounds_toArray, List.set_cons_zero, List.set_cons_succ]
      refine wpAnyH_take (i := 6) (v := ?_) rfl (by kernel_rfl) (by kernel_rfl) (by kernel_rfl) (fun _ _ _ h => h) (Or.inl ⟨by rfl, ?_⟩) (by assumption) ?_
      rotate_left
      · (intro w hSw; (try dsimp only at hSw); simp only [List.getElem_toArray, List.getElem_cons_succ, List.getElem_cons_zero]; go_simp; try with_reducible rfl)
      simp only [Act.put, List.getElem_toArray, List.getElem_cons_succ, List.getElem_cons_zero, List.setIfInBounds_toArray, List.set_cons_zero, List.set_cons_succ]
      refine wpAnyH_take (i := 7) (v := ?_) rfl (by kernel_rfl) (by kernel_rfl) (by kernel_rfl) (fun _ _ _ h => h) (Or.inl ⟨by rfl, ?_⟩) (by assumption) ?_
      rotate_left
      · (intro w hSw; (try dsimp only at hSw); simp only [List.getElem_toArray, List.getElem_cons_succ, List.getElem_cons_zero]; go_simp; try with_reducible rfl)
      simp only [Act.put, List.getElem_toArray, List.getElem_cons_succ, List.getElem_cons_zero, List.setIfInBounds_toArray, List.set_cons_zero, List.set_cons_succ]
      refine wpAnyH_take (i := 8) (v := ?_) rfl (by kernel_rfl) (by kernel_rfl) (by kernel_rfl) (fun _ _ _ h => h) (Or.inl ⟨by rfl, ?_⟩) (by assumption) ?_
      rotate_left
      · (intro w hSw; (try dsimp only at hSw); simp only [List.getElem_toArray, List.getElem_cons_succ, List.getElem_cons_zero]; go_simp; try with_reducible rfl)
      simp only [Act.put, List.getElem_toArray, List.getElem_cons_succ, List.getElem_cons_zero, List.setIfInBounds_toArray, List.set_cons_zero, List.set_cons_succ]
      refine wpAnyH_take (i := 9) (v := ?_) rfl (by kernel_rfl) (by kernel_rfl) (by kernel_rfl) (fun _ _ _ h => h) (Or.inl ⟨by rfl, ?_⟩) (by assumption) ?_
      rotate_left
      · (intro w hSw; (try dsimp only at hSw); simp only [List.getElem_toArray, List.getElem_cons_succ, List.getElem_cons_zero]; go_simp; try with_reducible rfl)
      simp only [Act.put, List.getElem_toArray, List.getElem_cons_succ, List.getElem_cons_zero, List.setIfInBounds_toArray, List.set_cons_zero, List.set_cons_succ]
      refine wpAnyH_take (i := 10) (v := ?_) rfl (by kernel_rfl) (by kernel_rfl) (by kernel_rfl) (fun _ _ _ h => h) (Or.inl ⟨by rfl, ?_⟩) (by assumption) ?_
      rotate_left
      · (intro w hSw; (try dsimp only at hSw); simp only [List.getElem_toArray, List.getElem_cons_succ, List.getElem_cons_zero]; go_simp; try with_reducible rfl)
      simp only [Act.put, List.getElem_toArray, List.getElem_cons_succ, List.getElem_cons_zero, List.setIfInBounds_toArray, List.set_cons_zero, List.set_cons_succ]
      refine wpAnyH_ready (rs := [11]) (by kernel_rfl) (by simp) ?_
      refine AllReadyH.cons rfl (fun K hK => ?_) AllReadyH.nil
      simp only [List.getElem_toArray, List.getElem_cons_succ, List.getElem_cons_zero]
      go_simp
      refine hK.out _ _ ?_ (fun hHeld => ?_)
      · trivial
      clear hK K
      try simp only [Act.put, List.setIfInBounds_toArray, List.set_cons_zero, List.set_cons_succ]
      refine wpAnyH_done (by kernel_rfl) ?_ _
      clear hcp
      go_wp2_with fail
      go_roundw
      case rel =>
        refine ⟨i + 1, by omega, by go_num, B2.out, ?_⟩
        rw [show 4 * (i + 1) = 4 * i + 4 by omega, ← HV.out]
        exact R2.out
      case measure => simp [intOf]; omega
    · obtain rfl : i = 60 := by omega
      have hd : decide (((60 : Nat) : Int) < 60) = false := rfl
      go_wp2_with fail
      refine bodyPost_ret (v := .tuple #[.pointer (some ⟨w.heap.size, 0, none⟩), .int .i64 0]) (by simp [results, Tryd.results16, go_sem]) rfl ⟨rfl, HR.out.1, ?_⟩
      have e : keyL g r (upto (4 * 60) F) = keyL g r F := by
        unfold keyL
        rw [bc_congr fun j hj => show upto (4 * 60) F j = F j by unfold upto; rw [if_pos hj]]
      rw [← e]
      exact HR.out.2
set_option maxRecDepth 100000 in
theorem expand_any (g : Nat) (v : Value) (bs : List UInt8) (w : World) (hv : IsB w v bs) (ht : IsTab w g) (r : Nat) (hr : nrnd bs.length = r) (hr0 : r ≠ 0) :
    Calls Tryd.prog 16 #[.pointer (some ⟨g, 0, none⟩), v] w fun e w' => e = .returned (.tuple #[.pointer (some ⟨w.heap.size, 0, none⟩), .int .i64 0]) ∧ Below w.heap.size w w' ∧ w'.heap[w.heap.size]? = some (.cells (keyL g r (eb (lf bs) (bs.length / 4) (4 * (r + 1) - bs.length / 4))).toArray 61 (0, 0)) := by
  obtain ⟨h0, a, cap, rfl, h1⟩ := hv
  have hv : IsB w (.slice a bs.length cap) bs := ⟨h0, a, cap, rfl, h1⟩
  have hcase : (bs.length = 16 ∧ r = 10) ∨ (bs.length = 24 ∧ r = 12) ∨ (bs.length = 32 ∧ r = 14) := by
    unfold nrnd at hr; split at hr
    · omega
    · split at hr
      · omega
      · split at hr <;> omega
  exact expand_core g a bs.length cap r (4 * (r + 1)) _ w (by omega) (by omega) rfl (by have := roundsOf_any bs.length w; rw [hr] at this; exact this)
    (fun w' hb => expanded_any g _ bs (bs.length / 4) (4 * (r + 1)) w' (hv.later hb) (ht.later hb) (by omega) (by omega) (by omega) (by omega))
end Go.Proofs.YtdfbcdgneboilaaDoor
namespace Go.Proofs.YtdfbcdgneboilaaDoor
open Go.ChangeShapes Go.WideShapes Go.ChangeAt Go.RowKit
set_option maxRecDepth 20000

/-- A Key lies in a block. -/
def IsKey (w : World) (k g r : Nat) (F : Nat → Nat) : Prop := k < w.heap.size ∧ ∀ (j : Nat) (v : Value), (keyL g r F)[j]? = some v → w.cell? ⟨k, j, none⟩ = some v
theorem IsKey.later {w w' : World} {k g r : Nat} {F : Nat → Nat} (h : IsKey w k g r F) (hb : Below w.heap.size w w') : IsKey w' k g r F :=
  ⟨Nat.lt_of_lt_of_le h.1 hb.size, fun j v hj => (hb.cell h.1).trans (h.2 j v hj)⟩
theorem IsKey.lt {w : World} {k g r : Nat} {F : Nat → Nat} (h : IsKey w k g r F) : k < w.heap.size := h.1
theorem IsKey.tab {w : World} {k g r : Nat} {F : Nat → Nat} (h : IsKey w k g r F) : w.cell? ⟨k, 0, none⟩ = some (.pointer (some ⟨g, 0, none⟩)) := h.2 0 _ rfl
theorem IsKey.rounds {w : World} {k g r : Nat} {F : Nat → Nat} (h : IsKey w k g r F) : w.cell? ⟨k, 1, none⟩ = some (.int .i64 (r : Nat)) := h.2 1 _ rfl
theorem IsKey.at {w : World} {k g r : Nat} {F : Nat → Nat} (h : IsKey w k g r F) (i : Nat) (hi : i < 15) : w.rangeAt k (2 + i * 16) (bc 16 fun j => F (16 * i + j)) := fun j v hj => by
  have hj16 : j < 16 := by have := (List.getElem?_eq_some_iff.1 hj).1; rwa [bc_len] at this
  rw [bc_get 16 _ j hj16] at hj
  have e : (keyL g r F)[2 + i * 16 + j]? = (bc 240 F)[16 * i + j]? := by
    unfold keyL
    rw [show 2 + i * 16 + j = (16 * i + j) + 1 + 1 by omega, List.getElem?_cons_succ, List.getElem?_cons_succ]
  refine h.2 _ _ ?_
  rw [e, bc_get 240 F _ (by omega)]
  exact hj

theorem expand_nil (v : Value) (w : World) : Calls Tryd.prog 16 #[.pointer none, v] w fun e w' => e = .returned (.tuple #[.pointer none, .int .i64 1]) ∧ w' = w := by
  go_enter Tryd.func16, Tryd.ntmps16
  go_wp2
  exact bodyPost_ret (v := .tuple #[.pointer none, .int .i64 1]) (by simp [results, Tryd.results16, go_sem]) rfl ⟨rfl, rfl⟩
theorem expand_wrong (g : Nat) (a : Option Addr) (len cap : Nat) (w : World) (h : nrnd len = 0) : Calls Tryd.prog 16 #[.pointer (some ⟨g, 0, none⟩), .slice a len cap] w fun e w' => e = .returned (.tuple #[.pointer none, .int .i64 2]) ∧ w' = w := by
  have cR := roundsOf_any len w
  rw [h] at cR
  go_enter Tryd.func16, Tryd.ntmps16
  go_wp2_with fail
  refine cR.mono ?_
  rintro e w' ⟨rfl, hw⟩
  rw [hw]
  clear hw
  go_wp2_with fail
  exact bodyPost_ret (v := .tuple #[.pointer none, .int .i64 2]) (by simp [results, Tryd.results16, go_sem]) rfl ⟨rfl, rfl⟩
end Go.Proofs.YtdfbcdgneboilaaDoor
namespace Go.Proofs.YtdfbcdgneboilaaDoor
open Go.ChangeShapes Go.WideShapes Go.ChangeAt Go.RowKit
set_option maxRecDepth 20000

theorem madeB (n : Nat) : madeCells #[Value.int .u8 0] n = (bcells (List.replicate n 0)).toArray := by
  apply Array.ext'
  rw [toList_madeCells_one]
  simp [bcells]
theorem omake_any (n : Nat) (hn : n ≤ 1099511627776) (w : World) :
    (Instr.makeSlice 22 (.int .i64 (n : Int)) (.int .i64 (n : Int))).run Tryd.prog w = .ok (.slice (some ⟨w.heap.size, 0, none⟩) n n) (w.alloc (.cells (bcells (List.replicate n 0)).toArray 5)) := by
  obtain ⟨i, hi⟩ : ∃ i, Tryd.prog.info? 5 = some i ∧ i.zero = some (.int .u8 0) ∧ i.size = 1 ∧ i.bytes = 1 := by
    refine ⟨_, rfl, rfl, rfl, rfl⟩
  have h := run_make (P := Tryd.prog) w 22 5 i (.int .u8 0) Tryd.underlying22 hi.1 hi.2.1 .i64 .i64 n n (by omega) (by omega) (by rw [hi.2.2.2]; omega) (by omega)
  rw [hi.2.2.1] at h
  simp only [Int.toNat_natCast, Nat.mul_one] at h
  rw [← madeB]
  exact h

/-- The exclusive or of two rows. -/
def xors (a b : List UInt8) : List UInt8 := List.zipWith (· ^^^ ·) a b
theorem length_xors (a b : List UInt8) : (xors a b).length = min a.length b.length := by simp [xors]
theorem oxor_u8 (a b : UInt8) : bits .xor .u8 ((a.toNat : Nat) : Int) ((b.toNat : Nat) : Int) = (((a ^^^ b).toNat : Nat) : Int) := by
  have ha := UInt8.toNat_lt a
  have hb := UInt8.toNat_lt b
  have hx : a.toNat ^^^ b.toNat < 2 ^ 8 := Nat.xor_lt_two_pow (by omega) (by omega)
  have h1 : (BitVec.ofInt 8 ((a.toNat : Nat) : Int)).toNat = a.toNat := by
    rw [BitVec.ofInt_natCast, BitVec.toNat_ofNat]; exact Nat.mod_eq_of_lt (by omega)
  have h2 : (BitVec.ofInt 8 ((b.toNat : Nat) : Int)).toNat = b.toNat := by
    rw [BitVec.ofInt_natCast, BitVec.toNat_ofNat]; exact Nat.mod_eq_of_lt (by omega)
  show IntKind.u8.wrap ((BitVec.ofInt 8 ((a.toNat : Nat) : Int) ^^^ BitVec.ofInt 8 ((b.toNat : Nat) : Int)).toNat : Int) = _
  rw [BitVec.toNat_xor, h1, h2, IntKind.wrap_u8, UInt8.toNat_xor]
  omega
theorem xors_get (a b : List UInt8) (k : Nat) (hk : k < min a.length b.length) : (xors a b).getD k 0 = a.getD k 0 ^^^ b.getD k 0 := by
  have h1 : k < a.length := by omega
  have h2 : k < b.length := by omega
  simp [xors, List.getElem?_zipWith, h1, h2]
/-- A row that is filled up to k. -/
def part (zs : List UInt8) (k : Nat) : List UInt8 := zs.take k ++ List.replicate (zs.length - k) 0
theorem length_part (zs : List UInt8) (k : Nat) (h : k ≤ zs.length) : (part zs k).length = zs.length := by simp [part]; omega
theorem part_set (zs : List UInt8) (k : Nat) (h : k < zs.length) : (bcells (part zs k)).set k (.int .u8 ((zs.getD k 0).toNat : Int)) = bcells (part zs (k + 1)) := by
  obtain ⟨j, hj⟩ : ∃ j, zs.length - k = j + 1 := ⟨zs.length - k - 1, by omega⟩
  have hj' : zs.length - (k + 1) = j := by omega
  unfold part
  rw [hj, hj', List.replicate_succ, List.take_succ_eq_append_getElem h]
  simp only [bcells, List.map_append, List.map_cons]
  rw [List.set_append_right _ _ (by simp; omega)]
  have : k - (List.map (fun b : UInt8 => Value.int .u8 (b.toNat : Int)) (List.take k zs)).length = 0 := by simp; omega
  rw [this]
  simp [h]
theorem part_zero (zs : List UInt8) : part zs 0 = List.replicate zs.length 0 := by simp [part]
theorem part_all (zs : List UInt8) : part zs zs.length = zs := by simp [part]

set_option maxHeartbeats 1600000 in
theorem xor_any (u v : Value) (xs ys : List UInt8) (w : World) (hu : IsB w u xs) (hv : IsB w v ys) (hn : xs.length ≤ 1099511627776) (hm : ys.length ≤ 1099511627776) :
    Calls Tryd.prog 37 #[u, v] w fun e w' => ∃ r, e = .returned r ∧ OwnB w.heap.size w' r (xors xs ys) ∧ Below w.heap.size w w' := by
  obtain ⟨_, a, c, rfl, hr⟩ := hu
  obtain ⟨_, a', c', rfl, hr'⟩ := hv
  have hcase : (xs.length : Int) ≤ ys.length ∨ (ys.length : Int) < xs.length := by omega
  rcases hcase with hle | hle
  · -- the first row is the shorter one
    have hlen : (xors xs ys).length = xs.length := by rw [length_xors]; omega
    have hmk := fun w => omake_any xs.length (by omega) w
    go_enter Tryd.func37, Tryd.ntmps37
    go_wp2
    have hr1 : Hid (xs.length = 0 ∨ ∃ b off : Nat, a = some ⟨b, off, none⟩ ∧ ∀ i, i < xs.length → w.cell? ⟨b, off + i, none⟩ = some (.int .u8 ((xs.getD i 0).toNat : Int))) := hr
    have hr2 : Hid (ys.length = 0 ∨ ∃ b off : Nat, a' = some ⟨b, off, none⟩ ∧ ∀ i, i < ys.length → w.cell? ⟨b, off + i, none⟩ = some (.int .u8 ((ys.getD i 0).toNat : Int))) := hr'
    clear hr hr' hmk
    go_loopw [15] (fun i wr => ∃ k : Nat, k ≤ xs.length ∧ i = .int .i64 k ∧ Below w.heap.size w wr ∧ wr.heap[w.heap.size]? = some (.cells (bcells (part (xors xs ys) k)).toArray 5 (0, 0))) (fun i _ => xs.length - (intOf i).toNat)
    case atStart => exact ⟨0, Nat.zero_le _, rfl, below_alloc (Below.refl _ _) _, by rw [part_zero, hlen]; exact heap_alloc_new _ _⟩
    case round =>
      rename_i wr
      obtain ⟨k, hk, rfl, hbel, hheap⟩ := hrel
      have HH : Hid (wr.heap[w.heap.size]? = some (.cells (bcells (part (xors xs ys) k)).toArray 5 (0, 0))) := hheap
      by_cases hlt : k < xs.length
      · rcases hr1.out with h | ⟨b1, o1, rfl, hc1⟩
        · omega
        rcases hr2.out with h | ⟨b2, o2, rfl, hc2⟩
        · omega
        have hx := xors_get xs ys k (by omega)
        have e1 : wr.cell? ⟨b1, o1 + k, none⟩ = some (.int .u8 ((xs.getD k 0).toNat : Int)) := later hbel (hc1 k (by omega))
        have e2 : wr.cell? ⟨b2, o2 + k, none⟩ = some (.int .u8 ((ys.getD k 0).toNat : Int)) := later hbel (hc2 k (by omega))
        obtain ⟨x, hx1⟩ : ∃ x, x = xs.getD k 0 := ⟨_, rfl⟩
        obtain ⟨y, hy1⟩ : ∃ y, y = ys.getD k 0 := ⟨_, rfl⟩
        rw [← hx1] at e1 hx
        rw [← hy1] at e2 hx
        have e3 : wr.cell? ⟨w.heap.size, k, none⟩ = some (.int .u8 (((part (xors xs ys) k).getD k 0).toNat : Int)) := by
          rw [cell_of_row wr _ _ _ _ _ hheap]; simpa using bcells_get (part (xors xs ys) k) k (by rw [length_part _ _ (by omega)]; omega)
        obtain ⟨z, hz1⟩ : ∃ z, z = (part (xors xs ys) k).getD k 0 := ⟨_, rfl⟩
        rw [← hz1] at e3
        have e4 : wr.frozen? ⟨w.heap.size, k, none⟩ = false := frozen_of_row wr _ _ _ _ hheap
        have i1 : (k : Int) < xs.length := by omega
        have i2 : (k : Int) < ys.length := by omega
        have HX : Hid ((xors xs ys).getD k 0 = x ^^^ y) := hx
        clear hx hx1 hy1 hz1 hheap hc1 hc2
        go_wp2
        go_region
        all_goals go_wp2
        all_goals go_roundw
        case rel =>
          refine ⟨k + 1, by omega, by go_num, (hbel.setCell (Nat.le_refl _) _).drew, ?_⟩
          show (wr.setCell _ _).heap[w.heap.size]? = _
          rw [heap_setCell_same wr _ _ _ _ _ HH.out, oxor_u8, ← HX.out, List.setIfInBounds_toArray, part_set _ _ (by omega)]
        case measure => simp [intOf]; omega
      · go_wp2
        go_ret
        have : k = xs.length := by omega
        subst this
        refine ⟨_, rfl, ⟨by omega, w.heap.size, Nat.le_refl _, by rw [hlen]; rfl, ?_⟩, hbel⟩
        rw [HH.out, ← hlen, part_all]
  · -- the second row is the shorter one
    have hlen : (xors xs ys).length = ys.length := by rw [length_xors]; omega
    have hmk := fun w => omake_any ys.length (by omega) w
    have hle' : ¬ ((xs.length : Int) ≤ ys.length) := by omega
    go_enter Tryd.func37, Tryd.ntmps37
    go_wp2
    have hr1 : Hid (xs.length = 0 ∨ ∃ b off : Nat, a = some ⟨b, off, none⟩ ∧ ∀ i, i < xs.length → w.cell? ⟨b, off + i, none⟩ = some (.int .u8 ((xs.getD i 0).toNat : Int))) := hr
    have hr2 : Hid (ys.length = 0 ∨ ∃ b off : Nat, a' = some ⟨b, off, none⟩ ∧ ∀ i, i < ys.length → w.cell? ⟨b, off + i, none⟩ = some (.int .u8 ((ys.getD i 0).toNat : Int))) := hr'
    clear hr hr' hmk
    go_loopw [15] (fun i wr => ∃ k : Nat, k ≤ ys.length ∧ i = .int .i64 k ∧ Below w.heap.size w wr ∧ wr.heap[w.heap.size]? = some (.cells (bcells (part (xors xs ys) k)).toArray 5 (0, 0))) (fun i _ => ys.length - (intOf i).toNat)
    case atStart => exact ⟨0, Nat.zero_le _, rfl, below_alloc (Below.refl _ _) _, by rw [part_zero, hlen]; exact heap_alloc_new _ _⟩
    case round =>
      rename_i wr
      obtain ⟨k, hk, rfl, hbel, hheap⟩ := hrel
      have HH : Hid (wr.heap[w.heap.size]? = some (.cells (bcells (part (xors xs ys) k)).toArray 5 (0, 0))) := hheap
      by_cases hlt : k < ys.length
      · rcases hr1.out with h | ⟨b1, o1, rfl, hc1⟩
        · omega
        rcases hr2.out with h | ⟨b2, o2, rfl, hc2⟩
        · omega
        have hx := xors_get xs ys k (by omega)
        have e1 : wr.cell? ⟨b1, o1 + k, none⟩ = some (.int .u8 ((xs.getD k 0).toNat : Int)) := later hbel (hc1 k (by omega))
        have e2 : wr.cell? ⟨b2, o2 + k, none⟩ = some (.int .u8 ((ys.getD k 0).toNat : Int)) := later hbel (hc2 k (by omega))
        obtain ⟨x, hx1⟩ : ∃ x, x = xs.getD k 0 := ⟨_, rfl⟩
        obtain ⟨y, hy1⟩ : ∃ y, y = ys.getD k 0 := ⟨_, rfl⟩
        rw [← hx1] at e1 hx
        rw [← hy1] at e2 hx
        have e3 : wr.cell? ⟨w.heap.size, k, none⟩ = some (.int .u8 (((part (xors xs ys) k).getD k 0).toNat : Int)) := by
          rw [cell_of_row wr _ _ _ _ _ hheap]; simpa using bcells_get (part (xors xs ys) k) k (by rw [length_part _ _ (by omega)]; omega)
        obtain ⟨z, hz1⟩ : ∃ z, z = (part (xors xs ys) k).getD k 0 := ⟨_, rfl⟩
        rw [← hz1] at e3
        have e4 : wr.frozen? ⟨w.heap.size, k, none⟩ = false := frozen_of_row wr _ _ _ _ hheap
        have i1 : (k : Int) < xs.length := by omega
        have i2 : (k : Int) < ys.length := by omega
        have HX : Hid ((xors xs ys).getD k 0 = x ^^^ y) := hx
        clear hx hx1 hy1 hz1 hheap hc1 hc2
        go_wp2
        go_region
        all_goals go_wp2
        all_goals go_roundw
        case rel =>
          refine ⟨k + 1, by omega, by go_num, (hbel.setCell (Nat.le_refl _) _).drew, ?_⟩
          show (wr.setCell _ _).heap[w.heap.size]? = _
          rw [heap_setCell_same wr _ _ _ _ _ HH.out, oxor_u8, ← HX.out, List.setIfInBounds_toArray, part_set _ _ (by omega)]
        case measure => simp [intOf]; omega
      · go_wp2
        go_ret
        have : k = ys.length := by omega
        subst this
        refine ⟨_, rfl, ⟨by omega, w.heap.size, Nat.le_refl _, by rw [hlen]; rfl, ?_⟩, hbel⟩
        rw [HH.out, ← hlen, part_all]
end Go.Proofs.YtdfbcdgneboilaaDoor
namespace Go.Proofs.YtdfbcdgneboilaaDoor
open Go.ChangeShapes Go.WideShapes Go.ChangeAt Go.RowKit
set_option maxRecDepth 20000

/-- The noughts of a new block of sixteen. -/
def nought16 : List UInt8 := List.replicate 16 0
theorem ozero16 (w : World) : (zeroValue 45).run Tryd.prog w = .ok (.agg (bcells nought16).toArray) w := by kernel_rfl
theorem range_get (f : Nat → UInt8) (k : Nat) (hk : k < 16) : ((List.range 16).map f).getD k 0 = f k := by
  rw [List.getD_eq_getElem?_getD, List.getElem?_map, List.getElem?_range hk]; rfl
theorem byteAt_nat (bs : List UInt8) (k : Nat) (hk : k < bs.length) : byteAt bs (k : Int) = (bs.getD k 0).toNat := by
  rw [byteAt_in bs _ (by omega) (by omega), Int.toNat_natCast]

/-- Sixteen bytes, noughts where there are none. -/
def blk (bs : List UInt8) : List UInt8 := (List.range 16).map fun k => bs.getD k 0
theorem length_blk (bs : List UInt8) : (blk bs).length = 16 := by simp [blk]
theorem blk_get (bs : List UInt8) (k : Nat) (hk : k < 16) : (blk bs).getD k 0 = bs.getD k 0 := range_get _ k hk
theorem byteAt_pos (bs : List UInt8) (k : Nat) : byteAt bs (k : Int) = (bs.getD k 0).toNat := by
  by_cases h : k < bs.length
  · exact byteAt_nat bs k h
  · rw [byteAt_out bs _ (by omega)]; simp [List.getElem?_eq_none (show bs.length ≤ k by omega)]
theorem blk_take (bs : List UInt8) : bs.take 16 ++ List.replicate (16 - bs.length) 0 = blk bs := by
  apply List.ext_getElem
  · rw [length_blk]; simp; omega
  · intro i h1 h2
    have h2' : i < 16 := by rw [length_blk] at h2; exact h2
    have e : (blk bs)[i]'h2 = bs.getD i 0 := by simp [blk]
    rw [e]
    by_cases h : i < bs.length
    · rw [List.getElem_append_left (by simp; omega)]; simp [h]
    · rw [List.getElem_append_right (by simp; omega)]; simp [List.getElem?_eq_none (show bs.length ≤ i by omega)]
theorem copy16 (w : World) (c : Nat) (bs : List UInt8) (a : Option Addr) (hr : bs.length = 0 ∨ ∃ b off : Nat, a = some ⟨b, off, none⟩ ∧ ∀ i, i < bs.length → w.cell? ⟨b, off + i, none⟩ = some (.int .u8 ((bs.getD i 0).toNat : Int))) :
    (Builtin.copy_ #[22, 22] 3 #[.slice (some ⟨w.heap.size, 0, none⟩) 16 16, .slice a bs.length c]).run Tryd.prog (w.alloc (.cells (bcells nought16).toArray 45)) = .ok (goInt (min bs.length 16 : Nat)) (w.alloc (.cells (bcells (blk bs)).toArray 45)) := by
  rcases hr with h0 | ⟨b, off, rfl, hc⟩
  · obtain rfl : bs = [] := List.eq_nil_of_length_eq_zero h0
    have e : bcells nought16 = bcells (blk []) := by rfl
    rw [← e]
    rcases a with _ | a
    · obtain ⟨i, hq, hi⟩ : ∃ i, Tryd.prog.info? 5 = some i ∧ i.size = 1 := ⟨_, rfl, rfl⟩
      simp [Builtin.copy_, run_underlying Tryd.underlying22, Builtin.lenOf, Builtin.firstCells, sizeOf, typeInfo, hq, storeCells]
    · have h := run_copy_row (P := Tryd.prog) (w.alloc (.cells (bcells nought16).toArray 45)) 22 22 3 5 w.heap.size 0 16 16 a 0 c (bcells nought16).toArray 45 [] Tryd.underlying22 rfl (heap_alloc_new _ _) (by simp) (fun j v hj => by simp at hj) (by simp) (fun v hv => by cases hv)
      rw [World.setRow_alloc_new] at h
      simpa using h
  · have hl : (bcells (bs.take 16)).length = min bs.length 16 := by rw [length_bcells, List.length_take, Nat.min_comm]
    have h := run_copy_row (P := Tryd.prog) (w.alloc (.cells (bcells nought16).toArray 45)) 22 22 3 5 w.heap.size 0 16 16 ⟨b, off, none⟩ bs.length c (bcells nought16).toArray 45 (bcells (bs.take 16)) Tryd.underlying22 rfl (heap_alloc_new _ _) hl
      (fun j v hj => by
        have hlt : j < (bs.take 16).length := by rw [← length_bcells]; exact (List.getElem?_eq_some_iff.1 hj).1
        have hlt2 : j < bs.length := by rw [List.length_take] at hlt; omega
        rw [bcells_get _ j hlt] at hj
        have := hc j hlt2
        refine Go.Proofs.YtdfbcdgneboilaaDoor.later ((Below.refl _ _).alloc (Nat.le_refl _) _) ?_
        rw [addr_add, ← hj, this]
        have e : (bs.take 16).getD j 0 = bs.getD j 0 := by
          rw [List.getD_eq_getElem?_getD, List.getElem?_take_of_lt (by rw [List.length_take] at hlt; omega), ← List.getD_eq_getElem?_getD]
        rw [e]) (by rw [hl, List.size_toArray, length_bcells]; simp [nought16]; omega) (bcells_one _)
    rw [h, World.setRow_alloc_new, hl]
    congr 4
    have d : (bcells nought16).drop (min bs.length 16) = bcells (List.replicate (16 - bs.length) 0) := by
      have e : 16 - min bs.length 16 = 16 - bs.length := by omega
      simp only [bcells, nought16, List.map_replicate, List.drop_replicate, e]
    rw [← blk_take]
    simp only [List.take_zero, List.nil_append, Nat.zero_add, d]
    simp [bcells]
set_option maxHeartbeats 1600000 in
theorem block_any (v : Value) (bs : List UInt8) (w : World) (hv : IsB w v bs) :
    Calls Tryd.prog 20 #[v] w fun e w' => e = .returned (.agg (bcells (blk bs)).toArray) ∧ Below w.heap.size w w' := by
  obtain ⟨_, a, c, rfl, hr⟩ := hv
  obtain ⟨Z0, hZ⟩ : ∃ Z0, Z0 = (bcells nought16).toArray := ⟨_, rfl⟩
  obtain ⟨V, hV⟩ : ∃ V, V = (bcells (blk bs)).toArray := ⟨_, rfl⟩
  have hz : ∀ w, (zeroValue 45).run Tryd.prog w = .ok (.agg Z0) w := by rw [hZ]; exact ozero16
  have hcp := copy16 (w.alloc (.cells Z0 45)) c bs a (by
    rcases hr with h | ⟨b, off, h1, h2⟩
    · exact .inl h
    · exact .inr ⟨b, off, h1, fun i hi => later (below_alloc (Below.refl _ _) _) (h2 i hi)⟩)
  have hlen : V.size = 16 := by rw [hV, List.size_toArray, length_bcells, length_blk]
  have hZl : Z0.size = 16 := by rw [hZ, List.size_toArray, length_bcells]; rfl
  have HO : Hid (V.all (·.oneCell') = true) := by
    rw [hV]; show _ = _; rw [Array.all_eq_true]; intro i hi; exact bcells_one (blk bs) _ (by simp)
  rw [← hZ, ← hV] at hcp
  simp only [World.size_alloc] at hcp
  have HV := hide hV
  rw [← hV]
  clear hr hZ hV
  go_enter Tryd.func20, Tryd.ntmps20
  go_wp2_with (first
    | (refine wpList_load_row rfl 45 _ rfl (w.heap.size + 1) rfl 45 V (0, 0) _ (heap_alloc2_new _ _ _) Tryd.underlying45 rfl (by rw [hlen]; rfl) ?_)
    | (refine wpList_store_row rfl 45 _ _ rfl w.heap.size V rfl rfl 45 Z0 (heap_alloc2_old _ _ _) (by rw [hlen]; rfl) (by rw [hZl, hlen]) HO.out ?_))
  refine bodyPost_ret (v := .agg V) (results_cell_row rfl _ _ w.heap.size 45 V (0, 0) _ rfl (setRow_heap _ _ _ _ _ _ (heap_alloc2_old _ _ _)) Tryd.underlying45 rfl (by rw [hlen]; rfl)) rfl ⟨rfl, ?_⟩
  exact below_setRow (below_alloc (below_alloc (Below.refl _ _) _) _) (Nat.le_refl _) _
end Go.Proofs.YtdfbcdgneboilaaDoor
namespace Go.Proofs.YtdfbcdgneboilaaDoor
open Go.ChangeShapes Go.WideShapes Go.ChangeAt Go.RowKit
set_option maxRecDepth 20000

set_option linter.unusedSimpArgs false in
set_option maxRecDepth 100000 in
set_option maxHeartbeats 1600000 in
theorem sum_core (X Y V : List Value) (w : World) (xs : List UInt8) (sV : V.toArray.size = 16) (oV : Hid (V.toArray.all (·.oneCell') = true))
    (cX : Hid (∀ w', w'.heap[w.heap.size]? = some (.cells X.toArray 45 (0, 0)) → w'.heap[w.heap.size + 1]? = some (.cells Y.toArray 45 (0, 0)) → Calls Tryd.prog 37 #[.slice (some ⟨w.heap.size, 0, none⟩) 16 16, .slice (some ⟨w.heap.size + 1, 0, none⟩) 16 16] w' fun e w'' => ∃ v, e = .returned v ∧ IsB w'' v xs ∧ Below w'.heap.size w' w''))
    (cB : Hid (∀ w' v, IsB w' v xs → Calls Tryd.prog 20 #[v] w' fun e w'' => e = .returned (.agg V.toArray) ∧ Below w'.heap.size w' w'')) :
    Calls Tryd.prog 31 #[.agg X.toArray, .agg Y.toArray] w fun e w' => e = .returned (.agg V.toArray) ∧ Below w.heap.size w w' := by
  obtain ⟨Z, hZ⟩ : ∃ Z, Z = bc 16 (fun _ => 0) := ⟨_, rfl⟩
  have hz := zero16
  rw [← hZ] at hz
  have sZ : Z.toArray.size = 16 := by rw [hZ, List.size_toArray, bc_len]
  clear hZ
  go_enter Tryd.func31, Tryd.ntmps31
  go_wp2_with fail
  have s' : ∀ (w : World) (o : Obj), (w.alloc o).heap.size = w.heap.size + 1 := fun w o => by simp
  have rZ : (((w.alloc (.cells X.toArray 45)).alloc (.cells Y.toArray 45)).alloc (.cells Z.toArray 45)).heap[w.heap.size + 1 + 1]? = some (.cells Z.toArray 45 (0, 0)) := by
    rw [← s' w (.cells X.toArray 45), ← s' _ (.cells Y.toArray 45)]; exact heap_alloc_new _ _
  have rY : (((w.alloc (.cells X.toArray 45)).alloc (.cells Y.toArray 45)).alloc (.cells Z.toArray 45)).heap[w.heap.size + 1]? = some (.cells Y.toArray 45 (0, 0)) := by
    rw [← s' w (.cells X.toArray 45)]; exact heap_alloc2_old _ _ _
  have bA : Below w.heap.size w (w.alloc (.cells X.toArray 45)) := below_alloc (Below.refl _ _) _
  have rX : (((w.alloc (.cells X.toArray 45)).alloc (.cells Y.toArray 45)).alloc (.cells Z.toArray 45)).heap[w.heap.size]? = some (.cells X.toArray 45 (0, 0)) := by
    have n : (w.alloc (.cells X.toArray 45)).heap[w.heap.size]? = some (.cells X.toArray 45 (0, 0)) := heap_alloc_new _ _
    have b : Below (w.alloc (.cells X.toArray 45)).heap.size (w.alloc (.cells X.toArray 45)) (((w.alloc (.cells X.toArray 45)).alloc (.cells Y.toArray 45)).alloc (.cells Z.toArray 45)) := below_alloc (below_alloc (Below.refl _ _) _) _
    exact (b.block _ (by rw [s']; omega)).trans n
  have BW : Below w.heap.size w (((w.alloc (.cells X.toArray 45)).alloc (.cells Y.toArray 45)).alloc (.cells Z.toArray 45)) := below_alloc (below_alloc bA _) _
  obtain ⟨W, hW⟩ : ∃ W, W = (((w.alloc (.cells X.toArray 45)).alloc (.cells Y.toArray 45)).alloc (.cells Z.toArray 45)) := ⟨_, rfl⟩
  rw [← hW] at rX rY rZ BW ⊢
  clear hW bA s' hz
  refine wp_region_held_drew (S := fun _ => True) (by kernel_rfl) ?_ (fun hHeld => ?_)
  · trivial
  refine wpAnyH_take (i := 0) (v := ?_) rfl (by kernel_rfl) (by kernel_rfl) (by kernel_rfl) (fun _ _ _ h => h) (Or.inl ⟨by rfl, ?_⟩) (by assumption) ?_
  rotate_left
  · (intro w hSw; (try dsimp only at hSw); simp only [List.getElem_toArray, List.getElem_cons_zero]; go_simp; try with_reducible rfl)
  simp only [Act.put, List.getElem_toArray, List.getElem_cons_zero, List.setIfInBounds_toArray, List.set_cons_zero, List.set_cons_succ]
  refine wpAnyH_take (i := 1) (v := ?_) rfl (by kernel_rfl) (by kernel_rfl) (by kernel_rfl) (fun _ _ _ h => h) (Or.inl ⟨by rfl, ?_⟩) (by assumption) ?_
  rotate_left
  · (intro w hSw; (try dsimp only at hSw); simp only [List.getElem_toArray, List.getElem_cons_succ, List.getElem_cons_zero]; go_simp; try with_reducible rfl)
  simp only [Act.put, List.getElem_toArray, List.getElem_cons_succ, List.getElem_cons_zero, List.setIfInBounds_toArray, List.set_cons_zero, List.set_cons_succ]
  refine wpAnyH_ready (rs := [2]) (by kernel_rfl) (by simp) ?_
  refine AllReadyH.cons rfl (fun K hK => ?_) AllReadyH.nil
  simp only [List.getElem_toArray, List.getElem_cons_succ, List.getElem_cons_zero]
  go_simp
  refine (cX.out W.drew rX rY).mono ?_
  rintro e w2 ⟨v, rfl, hv, b2⟩
  go_wp2_with fail
  refine hK.out _ _ ?_ (fun hHeld => ?_)
  · trivial
  clear hK K
  try simp only [Act.put, List.setIfInBounds_toArray, List.set_cons_zero, List.set_cons_succ]
  refine wpAnyH_ready (rs := [3]) (by kernel_rfl) (by simp) ?_
  refine AllReadyH.cons rfl (fun K hK => ?_) AllReadyH.nil
  simp only [List.getElem_toArray, List.getElem_cons_succ, List.getElem_cons_zero]
  go_simp
  refine (cB.out _ _ hv).mono ?_
  rintro e w3 ⟨rfl, b3⟩
  go_wp2_with fail
  refine hK.out _ _ ?_ (fun hHeld => ?_)
  · trivial
  clear hK K
  try simp only [Act.put, List.setIfInBounds_toArray, List.set_cons_zero, List.set_cons_succ]
  have b23 := below_two b2 b3
  have RZ3 := (b23.block _ (Array.getElem?_eq_some_iff.1 rZ).1).trans rZ
  have BW3 := below_two BW.drew b23
  refine wpAnyH_ready (rs := [4]) (by kernel_rfl) (by simp) ?_
  refine AllReadyH.cons rfl (fun K hK => ?_) AllReadyH.nil
  rw [if_pos (by rfl)]
  refine wp_store_row 45 _ _ rfl (w.heap.size + 1 + 1) V.toArray rfl rfl 45 Z.toArray RZ3 (by rw [sV]; rfl) (by rw [sV, sZ]) oV.out (hK.out _ _ trivial (fun hHeld => ?_))
  clear hK K
  try simp only [Act.put, List.setIfInBounds_toArray, List.set_cons_zero, List.set_cons_succ]
  refine wpAnyH_done (by kernel_rfl) ?_ _
  go_wp2_with fail
  refine bodyPost_ret (v := .agg V.toArray) (results_cell_row rfl _ _ (w.heap.size + 1 + 1) 45 V.toArray (0, 0) _ rfl (setRow_heap _ _ _ _ _ _ RZ3) Tryd.underlying45 rfl (by rw [sV]; rfl)) rfl ⟨rfl, ?_⟩
  exact below_setRow BW3 (by omega) _
theorem sum_any (x y : Nat → Nat) (hx : Byt x) (hy : Byt y) (w : World) : Calls Tryd.prog 31 #[.agg (bc 16 x).toArray, .agg (bc 16 y).toArray] w fun e w' => e = .returned (.agg (bc 16 fun i => x i ^^^ y i).toArray) ∧ Below w.heap.size w w' := by
  have isb : ∀ (f : Nat → Nat) (g : Nat) (w' : World), Byt f → w'.heap[g]? = some (.cells (bc 16 f).toArray 45 (0, 0)) → IsB w' (.slice (some ⟨g, 0, none⟩) 16 16) (toB 16 f) := fun f g w' hf h =>
    ⟨by rw [toB_len]; decide, _, 16, by rw [toB_len], .inr ⟨g, 0, rfl, fun i hi => by
      rw [toB_len] at hi
      rw [Nat.zero_add, row_cell h i hi]
      have := toB_get 16 f hf i hi
      unfold lf at this
      rw [this]⟩⟩
  have e : bcells (blk (xors (toB 16 x) (toB 16 y))) = bc 16 fun i => x i ^^^ y i := by
    rw [bcells_bc, length_blk]
    refine bc_congr fun i hi => ?_
    show ((blk (xors (toB 16 x) (toB 16 y))).getD i 0).toNat = _
    rw [blk_get _ _ hi, xors_get _ _ _ (by rw [toB_len, toB_len]; omega), UInt8.toNat_xor]
    have h1 := toB_get 16 x hx i hi
    have h2 := toB_get 16 y hy i hi
    unfold lf at h1 h2
    rw [h1, h2]
  refine sum_core (bc 16 x) (bc 16 y) (bc 16 fun i => x i ^^^ y i) w (xors (toB 16 x) (toB 16 y)) (by rw [List.size_toArray, bc_len]) (bc_one _ _) (fun w' h1 h2 => ?_) (fun w' v hv => ?_)
  · refine (xor_any _ _ _ _ w' (isb x _ w' hx h1) (isb y _ w' hy h2) (by rw [toB_len]; decide) (by rw [toB_len]; decide)).mono ?_
    rintro e w'' ⟨r, rfl, ho, hb⟩
    exact ⟨r, rfl, ho.isB, hb⟩
  · have := block_any v _ w' hv
    rw [e] at this
    exact this
end Go.Proofs.YtdfbcdgneboilaaDoor
