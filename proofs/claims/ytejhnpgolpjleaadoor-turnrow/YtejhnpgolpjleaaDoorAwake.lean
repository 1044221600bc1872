/- Own: the contract of awake of layer 3's statements (no statement is proved here). -/
import Derived.Test.YtejhnpgolpjleaaDoorTurn
namespace Go.Proofs.YtejhnpgolpjleaaDoor
open Go.ChangeShapes Go.WideShapes Go.ChangeAt Go.RowKit

set_option maxRecDepth 100000 in
set_option maxHeartbeats 1600000 in
theorem awake_core (X Y : Array Value) (w : World) (hX : X.size = 16) (hY : Y.size = 16) (oX : Hid (X.all (·.oneCell') = true)) (oY : Hid (Y.all (·.oneCell') = true)) (hz : ∀ w, (zeroValue 22).run Tryd.prog w = .ok (.agg #[.int .u8 0, .int .u8 0, .int .u8 0, .int .u8 0, .int .u8 0, .int .u8 0, .int .u8 0, .int .u8 0, .int .u8 0, .int .u8 0, .int .u8 0, .int .u8 0, .int .u8 0, .int .u8 0, .int .u8 0, .int .u8 0]) w)
    (x0 : Hid (X[0]? = some (.int .u8 99))) (x15 : Hid (X[15]? = some (.int .u8 99))) (y1 : Hid (Y[1]? = some (.int .u8 107))) (y2 : Hid (Y[2]? = some (.int .u8 103)))
    (cT : Hid (Calls Tryd.prog 11 #[] w fun e w' => (∃ g, e = .returned (.pointer (some ⟨g, 0, none⟩)) ∧ IsTab w' g) ∧ Below w.heap.size w w'))
    (cR : Hid (∀ g w, IsTab w g → Calls Tryd.prog 13 #[.pointer (some ⟨g, 0, none⟩), .agg #[.int .u8 0, .int .u8 0, .int .u8 0, .int .u8 0, .int .u8 0, .int .u8 0, .int .u8 0, .int .u8 0, .int .u8 0, .int .u8 0, .int .u8 0, .int .u8 0, .int .u8 0, .int .u8 0, .int .u8 0, .int .u8 0], .agg #[.int .u8 0, .int .u8 0, .int .u8 0, .int .u8 0, .int .u8 0, .int .u8 0, .int .u8 0, .int .u8 0, .int .u8 0, .int .u8 0, .int .u8 0, .int .u8 0, .int .u8 0, .int .u8 0, .int .u8 0, .int .u8 0]] w fun e w' => e = .returned (.agg X) ∧ Below w.heap.size w w'))
    (cL : Hid (∀ g w, IsTab w g → Calls Tryd.prog 14 #[.pointer (some ⟨g, 0, none⟩), .agg #[.int .u8 0, .int .u8 1, .int .u8 2, .int .u8 3, .int .u8 4, .int .u8 5, .int .u8 6, .int .u8 7, .int .u8 8, .int .u8 9, .int .u8 10, .int .u8 11, .int .u8 12, .int .u8 13, .int .u8 14, .int .u8 15], .agg #[.int .u8 0, .int .u8 0, .int .u8 0, .int .u8 0, .int .u8 0, .int .u8 0, .int .u8 0, .int .u8 0, .int .u8 0, .int .u8 0, .int .u8 0, .int .u8 0, .int .u8 0, .int .u8 0, .int .u8 0, .int .u8 0]] w fun e w' => e = .returned (.agg Y) ∧ Below w.heap.size w w')) :
    Calls Tryd.prog 18 #[] w fun e w' => e = .returned (.bool true) ∧ Below w.heap.size w w' := by
  have cN := hide new_nil
  go_enter Tryd.func18, Tryd.ntmps18
  go_wp2_with fail
  refine (cT.out).mono ?_
  rintro e w1 ⟨⟨g, rfl, ht⟩, b1⟩
  have HT := hide ht
  have B1 := hide b1
  clear ht b1
  go_wp2_with fail
  refine (cR.out g _ HT.out).mono ?_
  rintro e w2 ⟨rfl, b2⟩
  go_wp2_with (refine wpList_store_row rfl 22 _ _ rfl w2.heap.size X rfl rfl 22 _ (heap_alloc_new _ _) (by rw [hX]; rfl) (by rw [hX]; rfl) oX.out ?_)
  obtain ⟨nb, nr⟩ := new_row w2 #[.int .u8 0, .int .u8 0, .int .u8 0, .int .u8 0, .int .u8 0, .int .u8 0, .int .u8 0, .int .u8 0, .int .u8 0, .int .u8 0, .int .u8 0, .int .u8 0, .int .u8 0, .int .u8 0, .int .u8 0, .int .u8 0] X 22
  obtain ⟨W, hW⟩ : ∃ W, W = (w2.alloc (.cells #[.int .u8 0, .int .u8 0, .int .u8 0, .int .u8 0, .int .u8 0, .int .u8 0, .int .u8 0, .int .u8 0, .int .u8 0, .int .u8 0, .int .u8 0, .int .u8 0, .int .u8 0, .int .u8 0, .int .u8 0, .int .u8 0] 22)).setRow w2.heap.size X := ⟨_, rfl⟩
  rw [← hW] at nb nr ⊢
  have HT3 := hide ((HT.out.later b2).later nb)
  have B3 := hide (below_two (below_two B1.out b2) nb)
  have NR := hide nr
  obtain ⟨p, hp⟩ : ∃ p, p = w2.heap.size := ⟨_, rfl⟩
  rw [← hp] at NR ⊢
  clear nb nr hW b2 hp HT B1
  refine (cL.out g _ HT3.out).mono ?_
  rintro e w4 ⟨rfl, b4⟩
  have NR4 := hide ((b4.block p (Array.getElem?_eq_some_iff.1 NR.out).1).trans NR.out)
  obtain ⟨nb, nr⟩ := new_row w4 #[.int .u8 0, .int .u8 0, .int .u8 0, .int .u8 0, .int .u8 0, .int .u8 0, .int .u8 0, .int .u8 0, .int .u8 0, .int .u8 0, .int .u8 0, .int .u8 0, .int .u8 0, .int .u8 0, .int .u8 0, .int .u8 0] Y 22
  have NR5 := (nb.block p (Array.getElem?_eq_some_iff.1 NR4.out).1).trans NR4.out
  have B5 := hide (below_two (below_two B3.out b4) nb)
  have c1 : ((w4.alloc (.cells #[.int .u8 0, .int .u8 0, .int .u8 0, .int .u8 0, .int .u8 0, .int .u8 0, .int .u8 0, .int .u8 0, .int .u8 0, .int .u8 0, .int .u8 0, .int .u8 0, .int .u8 0, .int .u8 0, .int .u8 0, .int .u8 0] 22)).setRow w4.heap.size Y).cell? ⟨p, 0, none⟩ = some (.int .u8 99) := by rw [cell_of_row _ _ _ _ _ _ NR5]; exact x0.out
  have c2 : ((w4.alloc (.cells #[.int .u8 0, .int .u8 0, .int .u8 0, .int .u8 0, .int .u8 0, .int .u8 0, .int .u8 0, .int .u8 0, .int .u8 0, .int .u8 0, .int .u8 0, .int .u8 0, .int .u8 0, .int .u8 0, .int .u8 0, .int .u8 0] 22)).setRow w4.heap.size Y).cell? ⟨p, 15, none⟩ = some (.int .u8 99) := by rw [cell_of_row _ _ _ _ _ _ NR5]; exact x15.out
  have c3 : ((w4.alloc (.cells #[.int .u8 0, .int .u8 0, .int .u8 0, .int .u8 0, .int .u8 0, .int .u8 0, .int .u8 0, .int .u8 0, .int .u8 0, .int .u8 0, .int .u8 0, .int .u8 0, .int .u8 0, .int .u8 0, .int .u8 0, .int .u8 0] 22)).setRow w4.heap.size Y).cell? ⟨w4.heap.size, 1, none⟩ = some (.int .u8 107) := by rw [cell_of_row _ _ _ _ _ _ nr]; exact y1.out
  have c4 : ((w4.alloc (.cells #[.int .u8 0, .int .u8 0, .int .u8 0, .int .u8 0, .int .u8 0, .int .u8 0, .int .u8 0, .int .u8 0, .int .u8 0, .int .u8 0, .int .u8 0, .int .u8 0, .int .u8 0, .int .u8 0, .int .u8 0, .int .u8 0] 22)).setRow w4.heap.size Y).cell? ⟨w4.heap.size, 2, none⟩ = some (.int .u8 103) := by rw [cell_of_row _ _ _ _ _ _ nr]; exact y2.out
  clear nb nr NR5 b4 NR4 NR HT3 B3
  go_wp2_with (refine wpList_store_row rfl 22 _ _ rfl w4.heap.size Y rfl rfl 22 _ (heap_alloc_new _ _) (by rw [hY]; rfl) (by rw [hY]; rfl) oY.out ?_)
  refine (cN.out _).mono ?_
  rintro e w6 ⟨rfl, rfl⟩
  go_wp2
  go_ret
  exact ⟨rfl, B5.out⟩
theorem awake_any (w : World) (hl : Laid w) : Calls Tryd.prog 18 #[] w fun e w' => e = .returned (.bool true) ∧ Below w.heap.size w w' := by
  have s : ∀ f, (bc 16 f).toArray.size = 16 := fun f => by rw [List.size_toArray, bc_len]
  have gt : ∀ f i x, i < 16 → f i = x → (bc 16 f).toArray[i]? = some (.int .u8 (x : Nat)) := fun f i x hi hx => by rw [← hx]; simpa using bc_get 16 f i hi
  exact awake_core (bc 16 (rnd (fun _ => 0) fun _ => 0)).toArray (bc 16 (lst (fun i => i % 256) fun _ => 0)).toArray w (s _) (s _) (bc_one _ _) (bc_one _ _) zero16
    (gt _ 0 99 (by decide) (by decide +kernel)) (gt _ 15 99 (by decide) (by decide +kernel)) (gt _ 1 107 (by decide) (by decide +kernel)) (gt _ 2 103 (by decide) (by decide +kernel))
    (tables_any w hl) (fun g w ht => round_any g _ _ zero_byt zero_byt w ht) (fun g w ht => last_any g (fun i => i % 256) _ (fun i => Nat.mod_lt _ (by decide)) zero_byt w ht)
end Go.Proofs.YtejhnpgolpjleaaDoor
