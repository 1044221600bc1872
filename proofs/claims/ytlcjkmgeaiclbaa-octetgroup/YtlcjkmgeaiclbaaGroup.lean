/- Proved here: for all numbers a, b, c of 128 bits OctetGroup returns true and leaves its arguments as they were (sums hang on no order, what is added can be taken away); no condition. -/
import Derived.Test.YtlcjkmgeaiclbaaWide
import Derived.Lib.SmallJoins
import Derived.ChangeOld
namespace Go.Proofs.Ytlcjkmgeaiclbaa
open Go.ChangeShapes Go.WideShapes Go.ChangeAt Go.RowKit Go.Joins

set_option maxHeartbeats 4000000 in
set_option maxRecDepth 100000 in
theorem group_walk (al ah bl bh cl ch : Int) (h1 : W64 al) (h2 : W64 ah) (h3 : W64 bl) (h4 : W64 bh) (h5 : W64 cl) (h6 : W64 ch) (w : World) :
    Calls Try.prog 8 #[.agg #[.int .u64 al, .int .u64 ah], .agg #[.int .u64 bl, .int .u64 bh], .agg #[.int .u64 cl, .int .u64 ch]] w fun e w' => e = .returned (.bool true) ∧ Below w.heap.size w w' := by
  have e1 := plusLo_comm al bl
  have e2 := plusHi_comm al ah bl bh
  have e3 := plusLo_assoc al bl cl
  have e4 := plusHi_assoc al ah bl bh cl ch
  have e5 := back_lo al bl h1
  have e6 := back_hi al ah bl bh h1 h2 h3
  have e7 := forth_lo al bl h1
  have e8 := forth_hi al ah bl bh h1 h2 h3
  have e9 := self_lo al
  have e10 := self_hi al ah
  have e11 := none_lo al h1
  have e12 := none_hi al ah h1 h2
  go_enter Try.func8, Try.ntmps8
  go_wp2
  go_region_held3 (fun w' => Below w.heap.size w w' ∧ w.heap.size + 4 ≤ w'.heap.size ∧ ∀ b o, b < w.heap.size + 4 → w'.cell? ⟨b, o, none⟩ = ((((w.alloc (.cells #[.int .u64 al, .int .u64 ah] 25)).alloc (.cells #[.int .u64 bl, .int .u64 bh] 25)).alloc (.cells #[.int .u64 cl, .int .u64 ch] 25)).alloc (.cells #[.int .u64 0, .int .u64 0] 25)).cell? ⟨b, o, none⟩)
    (first
      | exact held_keep (by assumption) hb
      | exact held_start (below_alloc (below_alloc (below_alloc (below_alloc (Below.refl _ _) _) _) _) _) (by simp))
    (first
      | (go_at_call 24; refine (plus_any _ _ _ _ (by first | assumption | exact w64_plusLo _ _ | exact w64_minusLo _ _ | exact w64_zero) (by first | assumption | exact w64_plusHi _ _ _ _ | exact w64_minusHi _ _ _ _ | exact w64_zero) (by first | assumption | exact w64_plusLo _ _ | exact w64_minusLo _ _ | exact w64_zero) (by first | assumption | exact w64_plusHi _ _ _ _ | exact w64_minusHi _ _ _ _ | exact w64_zero) _).mono ?_; rintro e w' ⟨rfl, hb⟩)
      | (go_at_call 26; refine (minus_any _ _ _ _ (by first | assumption | exact w64_plusLo _ _ | exact w64_minusLo _ _ | exact w64_zero) (by first | assumption | exact w64_plusHi _ _ _ _ | exact w64_minusHi _ _ _ _ | exact w64_zero) (by first | assumption | exact w64_plusLo _ _ | exact w64_minusLo _ _ | exact w64_zero) (by first | assumption | exact w64_plusHi _ _ _ _ | exact w64_minusHi _ _ _ _ | exact w64_zero) _).mono ?_; rintro e w' ⟨rfl, hb⟩)
      | (go_at_call 19; refine (awake_any _).mono ?_; rintro e w' ⟨rfl, hb⟩))
  all_goals go_wp2
  all_goals go_ret
  all_goals exact ⟨rfl, held_below (by assumption)⟩

theorem cells_wide : Try.prog.cellsOf 25 = 2 := by kernel_rfl
set_option maxRecDepth 100000 in
theorem group_lifted (os : Os) (started : os.Started) (H : Type) (enc : TypeId × Value → H) :
    ReturnsInHanded {} Try.checked os 8 .any (Rows.octetGroupSpec.pre6 enc Try.prog Try.f8 Rows.octetGroupRow.domain false) (Rows.octetGroupSpec.post enc Try.prog Try.f8 false true false false) := by
  refine returnsInHanded_of_change (C := Try.checked) own started (by kernel_rfl) Try.func8
    (ChangeSpec.witness6 (enc := enc) (C := Try.checked) false ⟨#[], #[.agg #[.int .u64 0, .int .u64 0], .agg #[.int .u64 0, .int .u64 0], .agg #[.int .u64 0, .int .u64 0]], []⟩ 8 (by kernel_rfl) (by kernel_rfl) (by kernel_rfl) (by kernel_rfl)) ?_
  intro W base args ds gs before hval0 hW hcnd _
  have hval : ∀ (j : Nat) t v, Try.f8.params[j]? = some t → args[j]? = some v → Value.okWide Try.prog W .any base t v := hval0
  have hW' := hW
  obtain ⟨p, q, hA0, hV, rfl, hfz, hnd⟩ := hW
  have hA : DataW.TrodAll enc Try.prog W 0 (fun _ => true) true Try.f8.params.toList args.toList ds p := hA0
  rw [Try.params8] at hA hval
  obtain ⟨v0, vs0, d0, ds0, p0, q0, hargs, rfl, rfl, h0, r0⟩ := trodAll_cons hA
  obtain ⟨v1, vs1, d1, ds1, p1, q1, rfl, rfl, rfl, h1, r1⟩ := trodAll_cons r0
  obtain ⟨v2, vs2, d2, ds2, p2, q2, rfl, rfl, rfl, h2, r2⟩ := trodAll_cons r1
  obtain ⟨rfl, rfl, rfl⟩ := trodAll_nil r2
  obtain rfl : args = #[v0, v1, v2] := by cases args; simp_all
  obtain ⟨rfl, rfl⟩ := trodVars_none hV
  have k0 := h0
  have lt0 : ∀ x ∈ p0, x.block < W.heap.size := by obtain ⟨m, hm⟩ := k0; exact DataW.trod_lt m _ _ _ hm
  have k1 := h1
  have lt1 : ∀ x ∈ p1, x.block < W.heap.size := by obtain ⟨m, hm⟩ := k1; exact DataW.trod_lt m _ _ _ hm
  have k2 := h2
  have lt2 : ∀ x ∈ p2, x.block < W.heap.size := by obtain ⟨m, hm⟩ := k2; exact DataW.trod_lt m _ _ _ hm
  have wide_of : ∀ {v d p}, Value.okWide Try.prog W .any base 25 v → DataW.Trod enc Try.prog W 0 (fun _ => true) true 25 v d p → ∃ a b, v = .agg #[.int .u64 a, .int .u64 b] ∧ W64 a ∧ W64 b := by
    intro v d p hv h
    obtain ⟨c0, c1, y0, y1, m, rfl, rfl, rfl, hy0, hy1⟩ := open_agg2 Try.underlying25 (by kernel_rfl) cells_wide hv h
    obtain ⟨a, e0, _, wa⟩ := DataW.trod_int Try.underlying23 hy0
    obtain ⟨b, e1, _, wb⟩ := DataW.trod_int Try.underlying23 hy1
    simp at e0 e1
    subst e0 e1
    exact ⟨a, b, rfl, by have := bounds_u64 wa; exact ⟨by omega, by omega⟩, by have := bounds_u64 wb; exact ⟨by omega, by omega⟩⟩
  obtain ⟨a0, b0, rfl, wa0, wb0⟩ := wide_of (hval 0 25 v0 rfl rfl) h0
  obtain ⟨a1, b1, rfl, wa1, wb1⟩ := wide_of (hval 1 25 v1 rfl rfl) h1
  obtain ⟨a2, b2, rfl, wa2, wb2⟩ := wide_of (hval 2 25 v2 rfl rfl) h2
  clear hA0 hval0
  refine (group_walk a0 b0 a1 b1 a2 b2 wa0 wb0 wa1 wb1 wa2 wb2 W).mono fun e W' ⟨he, bel⟩ => ?_
  subst he
  exact ⟨_, rfl, _, _, _, [], _, [], hW', trodAll_mk1 (shut_bool Try.underlying4 _), (trodAll_cons_mk (Below.trod laidOut (by kernel_rfl) (of_decide_eq_true (by kernel_rfl)) k0 bel lt0) (trodAll_cons_mk (Below.trod laidOut (by kernel_rfl) (of_decide_eq_true (by kernel_rfl)) k1 bel lt1) (trodAll_cons_mk (Below.trod laidOut (by kernel_rfl) (of_decide_eq_true (by kernel_rfl)) k2 bel lt2) trodAll_mk0))), rfl, bel.frame _, fun h => by cases h⟩

theorem octetGroup_holds : Rows.OctetGroupSaid :=
  OpenClaim.holds_of_wide 8 Try.f8 rfl rfl rfl rfl rfl rfl rfl ⟨rfl, rfl, rfl, rfl, rfl⟩ rfl rfl rfl rfl rfl (by kernel_rfl) Try.func8 (by kernel_rfl)
    (of_decide_eq_true (by kernel_rfl)) (by unfold Func.isWrapper; first | (rw [if_pos (by decide +kernel)]; kernel_rfl) | (rw [if_neg (by decide +kernel)]; exact ⟨rfl, rfl⟩))
    (fun os started H enc _ => group_lifted os started H enc)
#print axioms octetGroup_holds
end Go.Proofs.Ytlcjkmgeaiclbaa
