/- Own: rows of keys, and the contract of Rounds of layer 3 (no statement is proved here). -/
import Derived.Test.YtlkihbmkekadeaaDoorTurn
namespace Go.Proofs.YtlkihbmkekadeaaDoor
open Go.ChangeShapes Go.WideShapes Go.ChangeAt Go.RowKit
set_option maxRecDepth 20000

/-- A row of n keys in the world. -/
def IsK (w : World) (v : Value) (n : Nat) (ks : Nat → Nat → Nat) : Prop :=
  (∀ i, Byt (ks i)) ∧ ∃ (a : Option Addr) (cap : Nat), v = .slice a n cap ∧ (n = 0 ∨ ∃ b off : Nat, a = some ⟨b, off, none⟩ ∧ ∀ i, i < n → w.rangeAt b (off + i * 16) (bc 16 (ks i)))
theorem IsK.later {w w' : World} {v : Value} {n : Nat} {ks : Nat → Nat → Nat} (h : IsK w v n ks) (hb : Below w.heap.size w w') : IsK w' v n ks := by
  obtain ⟨h0, a, cap, e, h2⟩ := h
  refine ⟨h0, a, cap, e, ?_⟩
  rcases h2 with h2 | ⟨b, off, ea, hc⟩
  · exact .inl h2
  · exact .inr ⟨b, off, ea, fun i hi j u hj => Go.Proofs.YtlkihbmkekadeaaDoor.later hb (hc i hi j u hj)⟩
def rnds (f : Nat → Nat) (ks : Nat → Nat → Nat) : Nat → Nat → Nat
  | 0 => f
  | i + 1 => rnd (rnds f ks i) (ks i)
theorem rnds_byt {f : Nat → Nat} {ks : Nat → Nat → Nat} (hf : Byt f) (hk : ∀ i, Byt (ks i)) : ∀ n, Byt (rnds f ks n)
  | 0 => hf
  | n + 1 => rnd_byt (hk n)

set_option maxRecDepth 100000 in
set_option maxHeartbeats 4000000 in
theorem rounds_core (g n cap : Nat) (a : Option Addr) (F K : Nat → List Value) (w : World) (hF : ∀ i, (F i).length = 16) (hK : ∀ i, (K i).length = 16) (oF : Hid (∀ i, (F i).toArray.all (·.oneCell') = true)) (oK : Hid (∀ i, (K i).toArray.all (·.oneCell') = true)) (hn : Hid (n ≤ 100))
    (hk : Hid (n = 0 ∨ ∃ b off : Nat, a = some ⟨b, off, none⟩ ∧ ∀ i, i < n → ∀ w', Below w.heap.size w w' → w'.rangeAt b (off + i * 16) (K i)))
    (cR : Hid (∀ i, i < n → ∀ w', Below w.heap.size w w' → Calls Tryd.prog 27 #[.pointer (some ⟨g, 0, none⟩), .agg (F i).toArray, .agg (K i).toArray] w' fun e w'' => e = .returned (.agg (F (i + 1)).toArray) ∧ Below w'.heap.size w' w'')) :
    Calls Tryd.prog 44 #[.pointer (some ⟨g, 0, none⟩), .agg (F 0).toArray, .slice a n cap] w fun e w' => e = .returned (.agg (F n).toArray) ∧ Below w.heap.size w w' := by
  obtain ⟨Z, hZ⟩ : ∃ Z, Z = bc 16 (fun _ => 0) := ⟨_, rfl⟩
  have hz := zero16
  rw [← hZ] at hz
  have hZl : Z.toArray.size = 16 := by rw [hZ, List.size_toArray, bc_len]
  clear hZ
  obtain ⟨F0, hF0⟩ : ∃ F0, F0 = F 0 := ⟨_, rfl⟩
  rw [← hF0]
  have HF0 := hide hF0
  have HF := hide hF
  have HK := hide hK
  clear hF0 hF hK
  go_enter Tryd.func44, Tryd.ntmps44
  go_wp2
  go_loopw [14] (fun i wr => ∃ k : Nat, k ≤ n ∧ i = .int .i64 k ∧ Hid (Below w.heap.size w wr ∧ wr.heap[w.heap.size]? = some (.cells (F k).toArray 31 (0, 0)) ∧ wr.heap[w.heap.size + 1]? = some (.cells Z.toArray 31 (0, 0)))) (fun i _ => n - (intOf i).toNat)
  case atStart =>
    refine ⟨0, by omega, rfl, below_alloc (below_alloc (Below.refl _ _) _) _, ?_, heap_alloc2_new _ _ _⟩
    rw [← HF0.out]; exact heap_alloc2_old _ _ _
  case round =>
    obtain ⟨k, hkn, rfl, HR⟩ := hrel
    by_cases hlt : k < n
    · obtain ⟨b, off, rfl, hrow⟩ : ∃ b off : Nat, a = some ⟨b, off, none⟩ ∧ ∀ i, i < n → ∀ w', Below w.heap.size w w' → w'.rangeAt b (off + i * 16) (K i) := hk.out.resolve_left (by omega)
      have r1 := hide (hrow k hlt wr HR.out.1)
      obtain ⟨A, hA⟩ : ∃ A, A = K k := ⟨_, rfl⟩
      obtain ⟨B, hB⟩ : ∃ B, B = F k := ⟨_, rfl⟩
      obtain ⟨C, hC⟩ : ∃ C, C = F (k + 1) := ⟨_, rfl⟩
      have lA : A.length = 16 := by rw [hA]; exact HK.out k
      have lB : B.length = 16 := by rw [hB]; exact HF.out k
      have lC : C.length = 16 := by rw [hC]; exact HF.out (k + 1)
      have oA : Hid (A.toArray.all (·.oneCell') = true) := by rw [hA]; exact oK.out k
      have oC : Hid (C.toArray.all (·.oneCell') = true) := by rw [hC]; exact oF.out (k + 1)
      have sA : A.toArray.size = 16 := by rw [List.size_toArray]; exact lA
      have sB : B.toArray.size = 16 := by rw [List.size_toArray]; exact lB
      have sC : C.toArray.size = 16 := by rw [List.size_toArray]; exact lC
      have iA : (Tryd.prog.info? 31).map (·.size) = some A.length := by rw [lA]; rfl
      obtain ⟨nb, nr⟩ := new_row wr Z.toArray A.toArray 31
      have K1 := hide (cR.out k hlt _ (below_two HR.out.1 nb))
      rw [← hA, ← hB, ← hC] at K1
      rw [← hA] at r1
      have HB := HR.out.2.1
      rw [← hB] at HB
      have NR := hide nr
      have NB := hide nb
      have R2 : Hid (((wr.alloc (.cells Z.toArray 31)).setRow wr.heap.size A.toArray).heap[w.heap.size]? = some (.cells B.toArray 31 (0, 0))) := (nb.block _ (Array.getElem?_eq_some_iff.1 HB).1).trans HB
      have i1 : (k : Int) < n := by omega
      have HC := hide hC
      clear hA hB hC lA lB lC nb nr HB hrow
      go_wp2_with (first
        | (refine wpList_load_mid rfl 31 _ rfl b (off + k * 16) rfl A _ r1.out Tryd.underlying31 rfl iA ?_)
        | (refine wpList_store_row rfl 31 _ _ rfl wr.heap.size A.toArray rfl rfl 31 _ (heap_alloc_new _ _) (by rw [sA]; rfl) (by rw [sA, hZl]) oA.out ?_)
        | (refine wpList_load_row rfl 31 _ rfl w.heap.size rfl 31 B.toArray (0, 0) _ R2.out Tryd.underlying31 rfl (by rw [sB]; rfl) ?_)
        | (refine wpList_load_row rfl 31 _ rfl wr.heap.size rfl 31 A.toArray (0, 0) _ NR.out Tryd.underlying31 rfl (by rw [sA]; rfl) ?_))
      refine (K1.out).mono ?_
      rintro e w9 ⟨rfl, b9⟩
      have R9 : Hid (w9.heap[w.heap.size]? = some (.cells B.toArray 31 (0, 0))) := (b9.block _ (Array.getElem?_eq_some_iff.1 R2.out).1).trans R2.out
      have B9 := hide (below_two NB.out b9)
      clear b9 K1 R2 NR NB r1
      have i3 : k < 100 := by have := hn.out; omega
      go_wp2_with (refine wpList_store_row rfl 31 _ _ rfl w.heap.size C.toArray rfl rfl 31 B.toArray R9.out (by rw [sC]; rfl) (by rw [sC, sB]) oC.out ?_)
      go_roundw
      case rel =>
        refine ⟨k + 1, by omega, by go_num, below_setRow (below_two HR.out.1 B9.out) (Nat.le_refl _) _, ?_, ?_⟩
        · rw [← HC.out]; exact setRow_heap _ _ _ _ _ _ R9.out
        · exact (setRow_other _ _ _ _ (by omega)).trans ((B9.out.block _ (Array.getElem?_eq_some_iff.1 HR.out.2.2).1).trans HR.out.2.2)
      case measure => simp [intOf]; omega
    · obtain rfl : k = n := by omega
      obtain ⟨V, hV⟩ : ∃ V, V = (F k).toArray := ⟨_, rfl⟩
      have hVl : V.size = 16 := by rw [hV, List.size_toArray, HF.out]
      have hV1 : Hid (V.all (·.oneCell') = true) := by rw [hV]; exact oF.out k
      have HV := hide hV
      have R2 : Hid (wr.heap[w.heap.size]? = some (.cells V 31 (0, 0))) := by rw [hV]; exact HR.out.2.1
      have R1 : Hid (wr.heap[w.heap.size + 1]? = some (.cells Z.toArray 31 (0, 0))) := HR.out.2.2
      clear hV
      go_wp2_with (first
        | (refine wpList_load_row rfl 31 _ rfl w.heap.size rfl 31 V (0, 0) _ R2.out Tryd.underlying31 rfl (by rw [hVl]; rfl) ?_)
        | (refine wpList_store_row rfl 31 _ _ rfl (w.heap.size + 1) V rfl rfl 31 Z.toArray R1.out (by rw [hVl]; rfl) (by rw [hZl, hVl]) hV1.out ?_))
      refine bodyPost_ret (v := .agg V) (results_cell_row rfl _ _ (w.heap.size + 1) 31 V (0, 0) _ rfl (setRow_heap _ _ _ _ _ _ R1.out) Tryd.underlying31 rfl (by rw [hVl]; rfl)) rfl ⟨by rw [HV.out], ?_⟩
      exact below_setRow HR.out.1 (by omega) _
theorem rounds_any (g n : Nat) (v : Value) (f : Nat → Nat) (ks : Nat → Nat → Nat) (hf : Byt f) (h1 : n ≤ 100) (w : World) (ht : IsTab w g) (hk : IsK w v n ks) :
    Calls Tryd.prog 44 #[.pointer (some ⟨g, 0, none⟩), blkV f, v] w fun e w' => e = .returned (blkV (rnds f ks n)) ∧ Below w.heap.size w w' := by
  obtain ⟨h0, a, cap, rfl, h2⟩ := hk
  refine rounds_core g n cap a (fun i => bc 16 (rnds f ks i)) (fun i => bc 16 (ks i)) w (fun i => bc_len _ _) (fun i => bc_len _ _) (fun i => bc_one _ _) (fun i => bc_one _ _) h1 ?_ (fun i _ w' hb => round_any g (rnds f ks i) (ks i) (rnds_byt hf h0 i) (h0 i) w' (ht.later hb))
  rcases h2 with h2 | ⟨b, off, ea, hc⟩
  · exact .inl h2
  · exact .inr ⟨b, off, ea, fun i hi w' hb j u hj => Go.Proofs.YtlkihbmkekadeaaDoor.later hb (hc i hi j u hj)⟩
end Go.Proofs.YtlkihbmkekadeaaDoor
