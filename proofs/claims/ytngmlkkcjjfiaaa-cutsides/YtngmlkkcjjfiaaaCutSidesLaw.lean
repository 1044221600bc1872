/- Proved here: for all bytes and three numbers CutSides returns true and leaves its arguments as they were (the half bytes of two cuts side by side are those of the cut of both); no condition. -/
import Derived.Test.YtngmlkkcjjfiaaaF8
import Derived.Test.YtngmlkkcjjfiaaaL14
namespace Go.Proofs.Ytngmlkkcjjfiaaa
open Go.ChangeShapes Go.WideShapes Go.ChangeAt Go.RowKit Go.Joins Ab
set_option linter.unusedVariables false in
set_option maxRecDepth 100000 in
theorem cutSides_lifted (os : Os) (started : os.Started) (H : Type) (enc : TypeId × Value → H) :
    ReturnsInHanded {} Try.checked os 9 .any (Rows.cutSidesSpec.pre6 enc Try.prog Try.f9 Rows.cutSidesRow.domain false) (Rows.cutSidesSpec.post enc Try.prog Try.f9 false true false false) := by
  refine returnsInHanded_of_change (C := Try.checked) own started (by kernel_rfl) Try.func9
    (ChangeSpec.witness6 (enc := enc) (C := Try.checked) false ⟨#[], #[.agg #[.slice none 0 0, .int .u8 0, .int .u8 0, .int .u8 0]], []⟩ 8 (by kernel_rfl) (by kernel_rfl) (by kernel_rfl) (by kernel_rfl)) ?_
  intro W base args ds gs before hval0 hW hcnd _
  have hval : ∀ (j : Nat) t v, Try.f9.params[j]? = some t → args[j]? = some v → Value.okWide Try.prog W .any base t v := hval0
  have hW' := hW
  obtain ⟨p, q, hA0, hV, rfl, hfz, hnd⟩ := hW
  have hA : DataW.TrodAll enc Try.prog W 0 (fun _ => true) true Try.f9.params.toList args.toList ds p := hA0
  rw [Try.params9] at hA hval
  obtain ⟨v0, vs0, d0, ds0, p0, q0, hargs, rfl, rfl, h0, r0⟩ := trodAll_cons hA
  obtain ⟨rfl, rfl, rfl⟩ := trodAll_nil r0
  obtain rfl : args = #[v0] := by cases args; simp_all
  obtain ⟨rfl, rfl⟩ := trodVars_none hV
  have lt0 : ∀ x ∈ p0, x.block < W.heap.size := by obtain ⟨m, hm⟩ := h0; exact DataW.trod_lt m _ _ _ hm
  obtain ⟨a0_0, len0_0, cap0_0, bs0_0, n0_1, n0_2, n0_3, rfl, hb0_0, hl0_0, hs0_0, w0_1, w0_2, w0_3⟩ := sides_of_trod (hval 0 47 v0 rfl rfl) h0
  clear hA0 hval0
  refine (CallOK.plainly ((fun bs hb _ p hp q hq r hr => sides_ok bs hb p q r hp hq hr) bs0_0 hb0_0 hl0_0 n0_1 (bounds_u8 w0_1) n0_2 (bounds_u8 w0_2) n0_3 (bounds_u8 w0_3)) (rhoOf [locOf (.slice a0_0 len0_0 cap0_0)]) W [.agg ([Value.slice a0_0 len0_0 cap0_0] ++ [Value.int .u8 n0_1] ++ [Value.int .u8 n0_2] ++ [Value.int .u8 n0_3]).toArray] (relL_cons (rel_agg (relL_app (relL_app (relL_app (relL_cons (hs0_0.rel rfl) relL_nil) (relL_ex _ [Value.int .u8 n0_1])) (relL_ex _ [Value.int .u8 n0_2])) (relL_ex _ [Value.int .u8 n0_3]))) relL_nil) (BAll.mem (ρ := rhoOf [locOf (.slice a0_0 len0_0 cap0_0)]) (W := W) ⟨(hs0_0.view rfl), trivial⟩) (wr_of (by kernel_rfl)) (fun g k hg => by cases hg)).mono fun e W' ⟨he, bel⟩ => ?_
  subst he
  exact ⟨_, rfl, _, _, _, [], _, [], hW', trodAll_mk1 (shut_bool Try.underlying4 _), (trodAll_cons_mk (Below.trod laidOut (by kernel_rfl) (of_decide_eq_true (by kernel_rfl)) h0 bel lt0) trodAll_mk0), rfl, bel.frame _, fun h => by cases h⟩

theorem cutSides_holds : Rows.CutSidesSaid :=
  OpenClaim.holds_of_wide 9 Try.f9 rfl rfl rfl rfl rfl rfl rfl ⟨rfl, rfl, rfl, rfl, rfl⟩ rfl rfl rfl rfl rfl (by kernel_rfl) Try.func9 (by kernel_rfl)
    (of_decide_eq_true (by kernel_rfl)) (by unfold Func.isWrapper; first | (rw [if_pos (by decide +kernel)]; kernel_rfl) | (rw [if_neg (by decide +kernel)]; exact ⟨rfl, rfl⟩))
    (fun os started H enc _ => cutSides_lifted os started H enc)
#print axioms cutSides_holds

end Go.Proofs.Ytngmlkkcjjfiaaa
