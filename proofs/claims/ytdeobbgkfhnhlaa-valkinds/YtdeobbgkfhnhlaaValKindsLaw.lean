/- Proved here: for all two lengths ValKinds returns true (length blocks tell a length, and whether blocks are whole); no condition. -/
import Derived.Test.YtdeobbgkfhnhlaaV8
import Derived.Test.YtdeobbgkfhnhlaaL8
namespace Go.Proofs.Ytdeobbgkfhnhlaa
open Go.ChangeShapes Go.WideShapes Go.ChangeAt Go.RowKit Go.Joins Ab
theorem valKinds_any (n : Int) (hn : 0 ≤ n ∧ n ≤ 4294967295) (m : Int) (hm : 0 ≤ m ∧ m ≤ 4294967295) : CallOK Try.prog (fun _ => none) 10 [.ex (.int .u32 n), .ex (.int .u32 m)] [] { val := .ex (.bool true) } := by
  obtain ⟨n, rfl⟩ := Int.eq_ofNat_of_zero_le hn.1
  obtain ⟨m, rfl⟩ := Int.eq_ofNat_of_zero_le hm.1
  exact vkinds_ok n m (by omega) (by omega)
set_option linter.unusedVariables false in
set_option maxRecDepth 100000 in
theorem valKinds_lifted (os : Os) (started : os.Started) (H : Type) (enc : TypeId × Value → H) :
    ReturnsInHanded {} Try.checked os 10 .any (Rows.valKindsSpec.pre6 enc Try.prog Try.f10 Rows.valKindsRow.domain false) (Rows.valKindsSpec.post enc Try.prog Try.f10 false true false false) := by
  refine returnsInHanded_of_change (C := Try.checked) own started (by kernel_rfl) Try.func10
    (ChangeSpec.witness6 (enc := enc) (C := Try.checked) false ⟨#[], #[.int .u32 0, .int .u32 0], []⟩ 8 (by kernel_rfl) (by kernel_rfl) (by kernel_rfl) (by kernel_rfl)) ?_
  intro W base args ds gs before hval0 hW hcnd _
  have hval : ∀ (j : Nat) t v, Try.f10.params[j]? = some t → args[j]? = some v → Value.okWide Try.prog W .any base t v := hval0
  have hW' := hW
  obtain ⟨p, q, hA0, hV, rfl, hfz, hnd⟩ := hW
  have hA : DataW.TrodAll enc Try.prog W 0 (fun _ => true) true Try.f10.params.toList args.toList ds p := hA0
  rw [Try.params10] at hA hval
  obtain ⟨v0, vs0, d0, ds0, p0, q0, hargs, rfl, rfl, h0, r0⟩ := trodAll_cons hA
  obtain ⟨v1, vs1, d1, ds1, p1, q1, rfl, rfl, rfl, h1, r1⟩ := trodAll_cons r0
  obtain ⟨rfl, rfl, rfl⟩ := trodAll_nil r1
  obtain rfl : args = #[v0, v1] := by cases args; simp_all
  obtain ⟨rfl, rfl⟩ := trodVars_none hV
  have lt0 : ∀ x ∈ p0, x.block < W.heap.size := by obtain ⟨m, hm⟩ := h0; exact DataW.trod_lt m _ _ _ hm
  have lt1 : ∀ x ∈ p1, x.block < W.heap.size := by obtain ⟨m, hm⟩ := h1; exact DataW.trod_lt m _ _ _ hm
  obtain ⟨n0, rfl, hd0, hp0, wn0⟩ := open_int Try.underlying47 (hval 0 47 v0 rfl rfl) h0
  obtain ⟨n1, rfl, hd1, hp1, wn1⟩ := open_int Try.underlying47 (hval 1 47 v1 rfl rfl) h1
  clear hA0 hval0
  refine (CallOK.plainly (valKinds_any n0 (bounds_u32 wn0) n1 (bounds_u32 wn1)) (rhoOf []) W [.int .u32 n0, .int .u32 n1] (relL_cons (.ex _) (relL_cons (.ex _) relL_nil)) (BAll.mem (ρ := rhoOf []) (W := W) trivial) (wr_of (by kernel_rfl)) (fun g k hg => by cases hg)).mono fun e W' ⟨he, bel⟩ => ?_
  subst he
  exact ⟨_, rfl, _, _, _, [], _, [], hW', trodAll_mk1 (shut_bool Try.underlying4 _), (trodAll_cons_mk (Below.trod laidOut (by kernel_rfl) (of_decide_eq_true (by kernel_rfl)) h0 bel lt0) (trodAll_cons_mk (Below.trod laidOut (by kernel_rfl) (of_decide_eq_true (by kernel_rfl)) h1 bel lt1) trodAll_mk0)), rfl, bel.frame _, fun h => by cases h⟩

theorem valKinds_holds : Rows.ValKindsSaid :=
  OpenClaim.holds_of_wide 10 Try.f10 rfl rfl rfl rfl rfl rfl rfl ⟨rfl, rfl, rfl, rfl, rfl⟩ rfl rfl rfl rfl rfl (by kernel_rfl) Try.func10 (by kernel_rfl)
    (of_decide_eq_true (by kernel_rfl)) (by unfold Func.isWrapper; first | (rw [if_pos (by decide +kernel)]; kernel_rfl) | (rw [if_neg (by decide +kernel)]; exact ⟨rfl, rfl⟩))
    (fun os started H enc _ => valKinds_lifted os started H enc)
#print axioms valKinds_holds

end Go.Proofs.Ytdeobbgkfhnhlaa
