/- Proved here: for every byte a GfBoxes returns true and leaves its argument as it was (the inverse, the box and the box back of any byte are the reference's); no condition. -/
import Derived.Test.YtflpckfdickbhaaRefTable
namespace Go.Proofs.Ytflpckfdickbhaa
open Go.ChangeShapes Go.WideShapes Go.ChangeAt Go.RowKit

theorem below_three {w w' w'' : World} (h : Below w.heap.size w w') (h' : Below w'.heap.size w' w'') : Below w.heap.size w w'' := h.trans (h'.mono h.size)
set_option maxHeartbeats 1600000 in
theorem boxes_core (a x y z : Int) (V : List Value) (w : World)
    (cI : Hid (∀ w, Calls Try.prog 18 #[.int .u8 a] w fun e w' => e = .returned (.int .u8 x) ∧ w' = w))
    (cRI : Hid (∀ w, Calls Try.prog 19 #[.int .u8 a] w fun e w' => e = .returned (.int .u8 x) ∧ w' = w))
    (cT : Hid (∀ w g, IsBoxes w g → Calls Try.prog 20 #[.pointer (some ⟨g, 0, none⟩), .int .u8 a] w fun e w' => e = .returned (.int .u8 y) ∧ w' = w))
    (cRB : Hid (∀ w, Calls Try.prog 21 #[.int .u8 a] w fun e w' => e = .returned (.int .u8 y) ∧ w' = w))
    (cB : Hid (∀ w g, IsBoxes w g → Calls Try.prog 22 #[.pointer (some ⟨g, 0, none⟩), .int .u8 a] w fun e w' => e = .returned (.int .u8 z) ∧ w' = w))
    (cRT : Hid (∀ w, Calls Try.prog 24 #[] w fun e w' => e = .returned (.agg V.toArray) ∧ Below w.heap.size w w'))
    (cRK : Hid (∀ w, Calls Try.prog 23 #[.agg V.toArray, .int .u8 a] w fun e w' => e = .returned (.int .u8 z) ∧ Below w.heap.size w w')) :
    Calls Try.prog 5 #[.int .u8 a] w fun e w' => e = .returned (.bool true) ∧ Below w.heap.size w w' := by
  have cM := hide (fun w => make_any w)
  have cN := hide (fun w => to_nil a w)
  have cK := hide (fun w => back_nil a w)
  go_enter Try.func5, Try.ntmps5
  go_wp2_with fail
  refine (cM.out _).mono ?_
  rintro e w1 ⟨rfl, hB, b1⟩
  have HB := hide hB
  have B1 := hide b1
  clear hB b1 cM
  go_wp2_with fail
  refine (cI.out _).mono ?_
  rintro e w' ⟨rfl, rfl⟩
  go_wp2_with fail
  refine (cRI.out _).mono ?_
  rintro e w' ⟨rfl, rfl⟩
  go_wp2_with fail
  refine (cT.out _ _ HB.out).mono ?_
  rintro e w' ⟨rfl, rfl⟩
  go_wp2_with fail
  refine (cRB.out _).mono ?_
  rintro e w' ⟨rfl, rfl⟩
  go_wp2_with fail
  refine (cB.out _ _ HB.out).mono ?_
  rintro e w' ⟨rfl, rfl⟩
  go_wp2_with fail
  refine (cRT.out _).mono ?_
  rintro e w2 ⟨rfl, b2⟩
  have B2 := hide (below_three B1.out b2)
  clear b2 B1 HB
  go_wp2_with fail
  refine (cRK.out _).mono ?_
  rintro e w3 ⟨rfl, b3⟩
  have B3 := hide (below_three B2.out b3)
  clear b3 B2
  go_wp2_with fail
  refine (cN.out _).mono ?_
  rintro e w' ⟨rfl, rfl⟩
  go_wp2_with fail
  refine (cK.out _).mono ?_
  rintro e w' ⟨rfl, rfl⟩
  go_wp2_with fail
  refine (awake_any _).mono ?_
  rintro e w4 ⟨rfl, b4⟩
  have B4 := hide (below_three B3.out b4)
  clear b4 B3
  go_wp2
  go_ret
  exact ⟨rfl, B4.out⟩
/-- The table, filled up to k. -/
def tb (k : Nat) : List Nat := (List.range 256).map fun j => if j < k then sbox j else 0
theorem tb_len (k : Nat) : (tb k).length = 256 := by unfold tb; rw [List.length_map, List.length_range]
theorem tb_set (k : Nat) : (tb k).set k (sbox k) = tb (k + 1) := by
  apply List.ext_getElem
  · rw [List.length_set, tb_len, tb_len]
  · intro i h1 h2
    rw [tb_len] at h2
    rw [List.getElem_set]
    simp only [tb, List.getElem_map, List.getElem_range]
    by_cases e : k = i
    · subst e; rw [if_pos rfl, if_pos (by omega)]
    · rw [if_neg e]
      by_cases h : i < k
      · rw [if_pos h, if_pos (by omega)]
      · rw [if_neg h, if_neg (by omega)]
theorem tb_all (k : Nat) (hk : k < 256) : (tb 256)[k]? = some (sbox k) := by
  unfold tb
  rw [List.getElem?_map, List.getElem?_range hk]
  simp [hk]
theorem tb_zero : tabV (tb 0) = tabV (List.replicate 256 0) := by
  have h : tb 0 = List.replicate 256 0 := by
    apply List.ext_getElem
    · rw [tb_len, List.length_replicate]
    · intro i h1 h2
      rw [List.getElem_replicate]
      simp only [tb, List.getElem_map, Nat.not_lt_zero, if_false]
  rw [h]
theorem zero256 (w : World) : (zeroValue 31).run Try.prog w = .ok (.agg (tabV (List.replicate 256 0)).toArray) w := by kernel_rfl
theorem tabV_one (l : List Nat) : (tabV l).toArray.all (·.oneCell') = true := by
  rw [Array.all_eq_true]; intro i hi; simp [tabV]; rfl
theorem ref_table (w : World) : Calls Try.prog 24 #[] w fun e w' => e = .returned (.agg (tabV (tb 256)).toArray) ∧ Below w.heap.size w w' :=
  ref_table_core (fun k => tabV (tb k)) sbox w (fun k => by rw [tabV_len, tb_len]) (hide (tabV_one _)) (hide fun k hk => by
    show (tabV (tb k)).set k _ = tabV (tb (k + 1))
    rw [← tb_set k]; unfold tabV; rw [List.map_set]) (fun w => by show _ = Result.ok (Value.agg (tabV (tb 0)).toArray) w; rw [tb_zero]; exact zero256 w) (hide fun k w hk => ref_box k hk w)
theorem ref_back (b : Nat) (hb : b < 256) (w : World) : Calls Try.prog 23 #[.agg (tabV (tb 256)).toArray, .int .u8 (b : Nat)] w fun e w' => e = .returned (.int .u8 (isb b : Nat)) ∧ Below w.heap.size w w' :=
  ref_back_core (tabV (tb 256)) sbox b (isb b) w (hide fun k hk => tabV_get _ _ _ (tb_all k hk)) (sbox_isb b hb).2 (hide (sbox_isb b hb).1) (hide fun k hk h => by rw [← h, isb_sbox k hk])
theorem boxes_walk (w : World) (a : Int) (ha : 0 ≤ a ∧ a ≤ 255) : Calls Try.prog 5 #[.int .u8 a] w fun e w' => e = .returned (.bool true) ∧ Below w.heap.size w w' := by
  obtain ⟨a, rfl⟩ := Int.eq_ofNat_of_zero_le ha.1
  have h : a < 256 := by omega
  exact boxes_core a (inv a : Nat) (sbox a : Nat) (isb a : Nat) (tabV (tb 256)) w (hide (inverse_any a h)) (hide (ref_inverse a h)) (hide fun w g hg => to_box g a h w hg) (hide (ref_box a h)) (hide fun w g hg => back_box g a h w hg) (hide ref_table) (hide (ref_back a h))
set_option linter.unusedVariables false in
set_option maxRecDepth 100000 in
theorem gfBoxes_lifted (os : Os) (started : os.Started) (H : Type) (enc : TypeId × Value → H) :
    ReturnsInHanded {} Try.checked os 5 .any (Rows.gfBoxesSpec.pre6 enc Try.prog Try.f5 Rows.gfBoxesRow.domain false) (Rows.gfBoxesSpec.post enc Try.prog Try.f5 false true false false) := by
  refine returnsInHanded_of_change (C := Try.checked) own started (by kernel_rfl) Try.func5
    (ChangeSpec.witness6 (enc := enc) (C := Try.checked) false ⟨#[], #[.int .u8 0], []⟩ 8 (by kernel_rfl) (by kernel_rfl) (by kernel_rfl) (by kernel_rfl)) ?_
  intro W base args ds gs before hval0 hW hcnd _
  have hval : ∀ (j : Nat) t v, Try.f5.params[j]? = some t → args[j]? = some v → Value.okWide Try.prog W .any base t v := hval0
  have hW' := hW
  obtain ⟨p, q, hA0, hV, rfl, hfz, hnd⟩ := hW
  have hA : DataW.TrodAll enc Try.prog W 0 (fun _ => true) true Try.f5.params.toList args.toList ds p := hA0
  rw [Try.params5] at hA hval
  obtain ⟨v0, vs0, d0, ds0, p0, q0, hargs, rfl, rfl, h0, r0⟩ := trodAll_cons hA
  obtain ⟨rfl, rfl, rfl⟩ := trodAll_nil r0
  obtain rfl : args = #[v0] := by cases args; simp_all
  obtain ⟨rfl, rfl⟩ := trodVars_none hV
  have lt0 : ∀ x ∈ p0, x.block < W.heap.size := by obtain ⟨m, hm⟩ := h0; exact DataW.trod_lt m _ _ _ hm
  obtain ⟨n0, rfl, hd0, hp0, wn0⟩ := open_int Try.underlying5 (hval 0 5 v0 rfl rfl) h0
  clear hA0 hval0
  refine (boxes_walk W n0 (bounds_u8 wn0)).mono fun e W' ⟨he, bel⟩ => ?_
  subst he
  exact ⟨_, rfl, _, _, _, [], _, [], hW', trodAll_mk1 (shut_bool Try.underlying4 _), (trodAll_cons_mk (Below.trod laidOut (by kernel_rfl) (of_decide_eq_true (by kernel_rfl)) h0 bel lt0) trodAll_mk0), rfl, bel.frame _, fun h => by cases h⟩

theorem gfBoxes_holds : Rows.GfBoxesSaid :=
  OpenClaim.holds_of_wide 5 Try.f5 rfl rfl rfl rfl rfl rfl rfl ⟨rfl, rfl, rfl, rfl, rfl⟩ rfl rfl rfl rfl rfl (by kernel_rfl) Try.func5 (by kernel_rfl)
    (of_decide_eq_true (by kernel_rfl)) (by unfold Func.isWrapper; first | (rw [if_pos (by decide +kernel)]; kernel_rfl) | (rw [if_neg (by decide +kernel)]; exact ⟨rfl, rfl⟩))
    (fun os started H enc _ => gfBoxes_lifted os started H enc)
#print axioms gfBoxes_holds

end Go.Proofs.Ytflpckfdickbhaa
