/- Own: the contract of the reference's Make of layer 3 (no statement is proved here). -/
import Derived.Test.YtlkihbmkekadeaaDoorRRound
namespace Go.Proofs.YtlkihbmkekadeaaDoor
open Go.ChangeShapes Go.WideShapes Go.ChangeAt Go.RowKit
set_option maxRecDepth 20000

theorem fold_set (T : List Value) : ∀ (P Q : List Value) (k : Nat), P.length = k → T.length ≤ Q.length → (T.zipIdx k).foldl (fun (cs : Array Value) (x : Value × Nat) => cs.setIfInBounds x.snd x.fst) (P ++ Q).toArray = (P ++ T ++ Q.drop T.length).toArray := by
  induction T with
  | nil => intro P Q k _ _; simp
  | cons a T ih =>
    intro P Q k hP hQ
    obtain ⟨q, Q', rfl⟩ : ∃ q Q', Q = q :: Q' := by
      cases Q with
      | nil => simp at hQ
      | cons q Q' => exact ⟨q, Q', rfl⟩
    rw [List.zipIdx_cons, List.foldl_cons]
    have e : ((P ++ q :: Q').toArray.setIfInBounds k a) = ((P ++ [a]) ++ Q').toArray := by
      rw [List.setIfInBounds_toArray, List.set_append_right _ _ (by omega), hP]
      simp
    show List.foldl _ ((P ++ q :: Q').toArray.setIfInBounds k a) _ = _
    rw [e, ih (P ++ [a]) Q' (k + 1) (by simp [hP]) (by simpa using hQ)]
    simp
set_option maxRecDepth 100000 in
set_option maxHeartbeats 1600000 in
theorem rmake_core (T Z : List Value) (L : Nat → List Value) (s : Nat → Nat) (w : World) (hZ : Z.length = 512) (hz : ∀ w, (zeroValue 38).run Tryd.prog w = .ok (.agg Z.toArray) w) (hT : T.length = 256) (hL : ∀ k, (L k).length = 512) (h1 : Hid ((L 256).toArray.all (·.oneCell') = true)) (h10 : Hid ((L 0).toArray.all (·.oneCell') = true))
    (hg : Hid (∀ k, k < 256 → (L k)[k]? = some (.int .u8 (s k : Nat)) ∧ s k < 256 ∧ (L k).set (256 + s k) (.int .u8 (k : Nat)) = L (k + 1)))
    (hb : T.zipIdx.foldl (fun (cs : Array Value) (x : Value × Nat) => cs.setIfInBounds x.snd x.fst) Z.toArray = (L 0).toArray)
    (cT : Hid (∀ w, Calls Tryd.prog 42 #[] w fun e w' => e = .returned (.agg T.toArray) ∧ Below w.heap.size w w')) :
    Calls Tryd.prog 21 #[] w fun e w' => e = .returned (.agg (L 256).toArray) ∧ Below w.heap.size w w' := by
  obtain ⟨A, hA⟩ : ∃ A, A = (L 0).toArray := ⟨_, rfl⟩
  rw [← hA] at hb h10
  have hAl : A.size = 512 := by rw [hA, List.size_toArray, hL]
  have hZl : Z.toArray.size = 512 := by rw [List.size_toArray, hZ]
  have HA := hide hA
  have HL := hide hL
  clear hA hL
  go_enter Tryd.func21, Tryd.ntmps21
  go_wp2_with fail
  refine (cT.out _).mono ?_
  rintro e w1 ⟨rfl, b1⟩
  go_wp2_with (refine wpList_store_row rfl 38 _ _ rfl w1.heap.size A rfl rfl 38 Z.toArray (heap_alloc_new _ _) (by rw [hAl]; rfl) (by rw [hAl, hZl]) h10.out ?_)
  have R0 := hide (new_row w1 Z.toArray A 38)
  have Z0 : Hid (((w.alloc (.cells Z.toArray 38))).heap[w.heap.size]? = some (.cells Z.toArray 38 (0, 0))) := heap_alloc_new _ _
  have B1 := hide b1
  have hlt1 : w.heap.size < w1.heap.size := by have := b1.size; simp at this; omega
  obtain ⟨g, hgd⟩ : ∃ g, g = w1.heap.size := ⟨_, rfl⟩
  obtain ⟨W, hW⟩ : ∃ W, W = (w1.alloc (.cells Z.toArray 38)).setRow w1.heap.size A := ⟨_, rfl⟩
  have HH : Hid (Below w.heap.size w W ∧ W.heap[g]? = some (.cells A 38 (0, 0)) ∧ W.heap[w.heap.size]? = some (.cells Z.toArray 38 (0, 0))) := by
    rw [hW, hgd]
    refine ⟨below_two (below_two (below_alloc (Below.refl _ _) _) B1.out) R0.out.1, R0.out.2, ?_⟩
    exact (R0.out.1.block _ hlt1).trans ((B1.out.block _ (by simp)).trans Z0.out)
  rw [← hW, ← hgd]
  rw [← hgd] at hlt1
  clear hz hb hW hgd b1 R0 Z0 B1
  go_loopw [2] (fun i wr => ∃ k : Nat, k ≤ 256 ∧ i = .int .i64 k ∧ Hid (Below w.heap.size w wr ∧ wr.heap[g]? = some (.cells (L k).toArray 38 (0, 0)) ∧ wr.heap[w.heap.size]? = some (.cells Z.toArray 38 (0, 0)))) (fun i _ => 256 - (intOf i).toNat)
  case atStart => exact ⟨0, by omega, rfl, HH.out.1, by rw [← HA.out]; exact HH.out.2.1, HH.out.2.2⟩
  case round =>
    obtain ⟨k, hk, rfl, HR⟩ := hrel
    clear HH
    by_cases hlt : k < 256
    · obtain ⟨g1, g2, g3⟩ := hg.out k hlt
      obtain ⟨x, ex⟩ : ∃ x, x = s k := ⟨_, rfl⟩
      rw [← ex] at g1 g2 g3
      have e1 : wr.cell? ⟨g, k, none⟩ = some (.int .u8 (x : Nat)) := by
        rw [cell_of_row wr _ _ _ _ _ HR.out.2.1]; simpa using g1
      obtain ⟨o, ho⟩ : ∃ o, (L k)[256 + x]? = some o := ⟨_, List.getElem?_eq_getElem (by rw [HL.out]; omega)⟩
      have e2 : wr.cell? ⟨g, 256 + x, none⟩ = some o := by
        rw [cell_of_row wr _ _ _ _ _ HR.out.2.1]; simpa using ho
      have e3 : wr.frozen? ⟨g, 256 + x, none⟩ = false := frozen_of_row wr _ _ _ _ HR.out.2.1
      have i1 : (k : Int) < 256 := by omega
      have i2 : (x : Int) < 256 := by omega
      have HW : IntKind.u8.wrap (k : Int) = k := by rw [IntKind.wrap_u8]; omega
      have G3 := hide g3
      clear g1 g3 ex ho
      go_wp2
      go_roundw
      case rel =>
        obtain ⟨hb, h1, h2⟩ := HR.out
        refine ⟨k + 1, by omega, by go_num, hb.setCell (by show w.heap.size ≤ g; omega) _, ?_, ?_⟩
        · rw [heap_setCell_same _ _ _ _ _ _ h1, List.setIfInBounds_toArray]
          first | rw [G3.out] | (rw [HW, G3.out]) | (rw [← G3.out]; congr 4; omega)
        · rw [heap_setCell_other _ _ _ _ (by show w.heap.size ≠ g; omega)]; exact h2
      case measure => simp [intOf]; omega
    · obtain rfl : k = 256 := by omega
      obtain ⟨V, hV⟩ : ∃ V, V = (L 256).toArray := ⟨_, rfl⟩
      have hVl : V.size = 512 := by rw [hV, List.size_toArray, HL.out]
      have hV1 : Hid (V.all (·.oneCell') = true) := by rw [hV]; exact h1
      have HV := hide hV
      have R2 : Hid (wr.heap[g]? = some (.cells V 38 (0, 0))) := by rw [hV]; exact HR.out.2.1
      have R1 := hide HR.out.2.2
      clear hV hlt hk
      go_wp2_with (first
        | (refine wpList_load_row rfl 38 _ rfl g rfl 38 V (0, 0) _ R2.out Tryd.underlying38 rfl (by rw [hVl]; rfl) ?_)
        | (refine wpList_store_row rfl 38 _ _ rfl w.heap.size V rfl rfl 38 Z.toArray R1.out (by rw [hVl]; rfl) (by rw [hZl, hVl]) hV1.out ?_))
      refine bodyPost_ret (v := .agg V) (results_cell_row rfl _ _ w.heap.size 38 V (0, 0) _ rfl (setRow_heap _ _ _ _ _ _ R1.out) Tryd.underlying38 rfl (by rw [hVl]; rfl)) rfl ⟨by rw [HV.out], ?_⟩
      exact below_setRow HR.out.1 (Nat.le_refl _) _

/-! The boxes, there and back. -/
def bf (k j : Nat) : Nat := if j < 256 then sbox j else if isb (j - 256) < k then isb (j - 256) else 0
theorem bf_set (k : Nat) (hk : k < 256) : (bc 512 (bf k)).set (256 + sbox k) (.int .u8 (k : Nat)) = bc 512 (bf (k + 1)) := by
  rw [bc_set]
  refine bc_congr fun j hj => ?_
  unfold bf
  by_cases e : j = 256 + sbox k
  · rw [if_pos e, if_neg (by omega), show j - 256 = sbox k by omega, isb_sbox k hk, if_pos (by omega)]
  · rw [if_neg e]
    by_cases h : j < 256
    · rw [if_pos h, if_pos h]
    · rw [if_neg h, if_neg h]
      have hne : isb (j - 256) ≠ k := fun h' => e (by
        have := (sbox_isb (j - 256) (by omega)).1
        rw [h'] at this; omega)
      by_cases h2 : isb (j - 256) < k
      · rw [if_pos h2, if_pos (by omega)]
      · rw [if_neg h2, if_neg (by omega)]
theorem bc_append (m n : Nat) (f g : Nat → Nat) : bc (m + n) (fun j => if j < m then f j else g (j - m)) = bc m f ++ bc n g := by
  apply List.ext_getElem
  · rw [List.length_append, bc_len, bc_len, bc_len]
  · intro i h1 h2
    rw [bc_len] at h1
    by_cases h : i < m
    · rw [List.getElem_append_left (by rw [bc_len]; exact h)]
      simp only [bc, List.getElem_map, List.getElem_range, h, if_true]
    · rw [List.getElem_append_right (by rw [bc_len]; omega)]
      simp only [bc, List.getElem_map, List.getElem_range, h, if_false, List.length_map, List.length_range]
theorem bf_all : bc 512 (bf 256) = bc 256 sbox ++ bc 256 isb := by
  rw [← bc_append 256 256]
  refine bc_congr fun j hj => ?_
  unfold bf
  by_cases h : j < 256
  · rw [if_pos h, if_pos h]
  · rw [if_neg h, if_neg h, if_pos (isb_lt _ (by omega))]
theorem bf_first : bc 512 (bf 0) = bc 256 sbox ++ bc 256 fun _ => 0 := by
  rw [← bc_append 256 256]
  refine bc_congr fun j hj => ?_
  unfold bf
  by_cases h : j < 256
  · rw [if_pos h, if_pos h]
  · rw [if_neg h, if_neg h, if_neg (by omega)]
theorem tb_bc : tabV (tb 256) = bc 256 sbox := by
  apply List.ext_getElem
  · rw [tabV_len, tb_len, bc_len]
  · intro i h1 h2
    rw [bc_len] at h2
    simp only [tabV, tb, bc, List.getElem_map, List.getElem_range, h2, if_true]
theorem zero_box (w : World) : (zeroValue 38).run Tryd.prog w = .ok (.agg (List.replicate 512 (Value.int .u8 0)).toArray) w := by kernel_rfl
theorem zeros_bc (n : Nat) : List.replicate n (Value.int .u8 0) = bc n fun _ => 0 := by
  apply List.ext_getElem
  · rw [List.length_replicate, bc_len]
  · intro i h1 h2
    rw [List.getElem_replicate]; simp [bc]
theorem drop_zeros (m n : Nat) : (bc (m + n) fun _ => 0).drop m = bc n fun _ => 0 := by
  apply List.ext_getElem
  · rw [List.length_drop, bc_len, bc_len]; omega
  · intro i h1 h2
    rw [List.getElem_drop]; simp [bc]
/-- All boxes, as the reference has them. -/
def boxV : Value := .agg (bc 256 sbox ++ bc 256 isb).toArray
theorem rmake_any (w : World) : Calls Tryd.prog 21 #[] w fun e w' => e = .returned boxV ∧ Below w.heap.size w w' := by
  have := rmake_core (bc 256 sbox) (bc 512 fun _ => 0) (fun k => bc 512 (bf k)) sbox w (bc_len _ _) (fun w => by rw [← zeros_bc]; exact zero_box w) (bc_len _ _) (fun k => bc_len _ _) (bc_one _ _) (bc_one _ _)
    (fun k hk => ⟨by rw [bc_get 512 _ k (by omega)]; unfold bf; rw [if_pos hk], sbox_lt k hk, bf_set k hk⟩)
    (by
      have h := fold_set (bc 256 sbox) [] (bc 512 fun _ => 0) 0 rfl (by rw [bc_len, bc_len]; decide)
      rw [List.nil_append, List.nil_append, bc_len] at h
      show _ = (bc 512 (bf 0)).toArray
      rw [h, bf_first, drop_zeros 256 256])
    (fun w => by rw [← tb_bc]; exact ref_table w)
  show Calls _ _ _ _ fun e w' => e = .returned (.agg (bc 256 sbox ++ bc 256 isb).toArray) ∧ _
  rw [← bf_all]
  exact this
end Go.Proofs.YtlkihbmkekadeaaDoor
