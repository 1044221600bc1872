/- Proved here: for every element and every row of rows of bytes ValOn returns true and leaves its arguments as they were (behind blocks the value goes on, part by part, each part padded by itself); no condition. -/
import Derived.Test.YtkinogfolggaoaaW2
import Derived.Test.YtkinogfolggaoaaLR
import Derived.Test.YtkinogfolggaoaaLA
namespace Go.Proofs.Ytkinogfolggaoaa
open Go.ChangeShapes Go.WideShapes Go.ChangeAt Go.RowKit Go.Joins Ab
theorem valOn_any (b : Nat → Int) (hb : ∀ i, i < 16 → R8 (b i)) (rs : List (List Int)) (hr : ∀ r ∈ rs, All8 r) (hl : rs.length ≤ 9223372036854775807) : CallOK Try.prog (fun _ => none) 3 [.ex (.agg (ar8 16 b).toArray), .sv 0 0 rs.length] [(0, .rows (cellsR rs))] { val := .ex (.bool true) } := by
  rw [ar8_el b hb]; exact valon_ok (Ab.el b) rs hr hl
set_option linter.unusedVariables false in
set_option maxRecDepth 100000 in
theorem valOn_lifted (os : Os) (started : os.Started) (H : Type) (enc : TypeId × Value → H) :
    ReturnsInHanded {} Try.checked os 3 .any (Rows.valOnSpec.pre6 enc Try.prog Try.f3 Rows.valOnRow.domain false) (Rows.valOnSpec.post enc Try.prog Try.f3 false true false false) := by
  refine returnsInHanded_of_change (C := Try.checked) own started (by kernel_rfl) Try.func3
    (ChangeSpec.witness6 (enc := enc) (C := Try.checked) false ⟨#[], #[.agg #[.int .u8 0, .int .u8 0, .int .u8 0, .int .u8 0, .int .u8 0, .int .u8 0, .int .u8 0, .int .u8 0, .int .u8 0, .int .u8 0, .int .u8 0, .int .u8 0, .int .u8 0, .int .u8 0, .int .u8 0, .int .u8 0], .slice none 0 0], []⟩ 8 (by kernel_rfl) (by kernel_rfl) (by kernel_rfl) (by kernel_rfl)) ?_
  intro W base args ds gs before hval0 hW hcnd _
  have hval : ∀ (j : Nat) t v, Try.f3.params[j]? = some t → args[j]? = some v → Value.okWide Try.prog W .any base t v := hval0
  have hW' := hW
  obtain ⟨p, q, hA0, hV, rfl, hfz, hnd⟩ := hW
  have hA : DataW.TrodAll enc Try.prog W 0 (fun _ => true) true Try.f3.params.toList args.toList ds p := hA0
  rw [Try.params3] at hA hval
  obtain ⟨v0, vs0, d0, ds0, p0, q0, hargs, rfl, rfl, h0, r0⟩ := trodAll_cons hA
  obtain ⟨v1, vs1, d1, ds1, p1, q1, rfl, rfl, rfl, h1, r1⟩ := trodAll_cons r0
  obtain ⟨rfl, rfl, rfl⟩ := trodAll_nil r1
  obtain rfl : args = #[v0, v1] := by cases args; simp_all
  obtain ⟨rfl, rfl⟩ := trodVars_none hV
  have lt0 : ∀ x ∈ p0, x.block < W.heap.size := by obtain ⟨m, hm⟩ := h0; exact DataW.trod_lt m _ _ _ hm
  have lt1 : ∀ x ∈ p1, x.block < W.heap.size := by obtain ⟨m, hm⟩ := h1; exact DataW.trod_lt m _ _ _ hm
  obtain ⟨f0, rfl, hf0⟩ := a16_of_trod (hval 0 22 v0 rfl rfl) h0
  obtain ⟨a1, len1, cap1, rfl⟩ := okWide_slice Try.underlying23 (hval 1 23 v1 rfl rfl)
  obtain ⟨bs1, hb1, hl1, hs1⟩ := ss8_of_trod h1
  clear hA0 hval0
  refine (CallOK.plainlyO (valOn_any f0 hf0 bs1 hb1 hl1) (rhoOf [locR (.slice a1 len1 cap1)]) W [.agg (ar8 16 f0).toArray, .slice a1 len1 cap1] (relL_cons (.ex _) (relL_cons (hs1.rel rfl) relL_nil)) (BAll.mem (ρ := rhoOf [locR (.slice a1 len1 cap1)]) (W := W) ⟨(hs1.view rfl), trivial⟩) (wr_of (by kernel_rfl)) (fun g k hg => by cases hg) (OAll.mem (ρ := rhoOf [locR (.slice a1 len1 cap1)]) (W := W) ⟨(hs1.old rfl), trivial⟩)).mono fun e W' ⟨he, bel⟩ => ?_
  subst he
  exact ⟨_, rfl, _, _, _, [], _, [], hW', trodAll_mk1 (shut_bool Try.underlying4 _), (trodAll_cons_mk (Below.trod laidOut (by kernel_rfl) (of_decide_eq_true (by kernel_rfl)) h0 bel lt0) (trodAll_cons_mk (Below.trod laidOut (by kernel_rfl) (of_decide_eq_true (by kernel_rfl)) h1 bel lt1) trodAll_mk0)), rfl, bel.frame _, fun h => by cases h⟩

theorem valOn_holds : Rows.ValOnSaid :=
  OpenClaim.holds_of_wide 3 Try.f3 rfl rfl rfl rfl rfl rfl rfl ⟨rfl, rfl, rfl, rfl, rfl⟩ rfl rfl rfl rfl rfl (by kernel_rfl) Try.func3 (by kernel_rfl)
    (of_decide_eq_true (by kernel_rfl)) (by unfold Func.isWrapper; first | (rw [if_pos (by decide +kernel)]; kernel_rfl) | (rw [if_neg (by decide +kernel)]; exact ⟨rfl, rfl⟩))
    (fun os started H enc _ => valOn_lifted os started H enc)
#print axioms valOn_holds

end Go.Proofs.Ytkinogfolggaoaa
