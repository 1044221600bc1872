/- Proved here: for all bytes a, b GfTimes returns true and leaves its arguments as they were (the product of any two elements, and any one doubled, are the reference's); no condition. -/
import Derived.Test.YtflpckfdickbhaaMake
import Derived.Test.YtflpckfdickbhaaRefTimes
import Derived.Test.YtflpckfdickbhaaLift
namespace Go.Proofs.Ytflpckfdickbhaa
open Go.ChangeShapes Go.WideShapes Go.ChangeAt Go.RowKit

theorem dbl_right : ∀ a, a < 256 → times a 2 = dbl a := by decide +kernel
set_option maxHeartbeats 1600000 in
theorem times_core (T : Nat → Nat → Nat) (cT : Hid (∀ a b : Nat, a < 256 → b < 256 → ∀ w, Calls Try.prog 11 #[.int .u8 (a : Int), .int .u8 (b : Int)] w fun e w' => e = .returned (.int .u8 (T a b : Nat)) ∧ w' = w)) (cR : Hid (∀ a b : Nat, a < 256 → b < 256 → ∀ w, Calls Try.prog 12 #[.int .u8 (a : Int), .int .u8 (b : Int)] w fun e w' => e = .returned (.int .u8 (T a b : Nat)) ∧ w' = w)) (D : Nat → Nat) (cD : Hid (∀ a : Nat, a < 256 → ∀ w, Calls Try.prog 13 #[.int .u8 (a : Int)] w fun e w' => e = .returned (.int .u8 (D a : Nat)) ∧ w' = w)) (a b : Nat) (ha : a < 256) (hb : b < 256) (e1 : Hid (T a 2 = D a)) (w : World) :
    Calls Try.prog 3 #[.int .u8 a, .int .u8 b] w fun e w' => e = .returned (.bool true) ∧ Below w.heap.size w w' := by
  have k1 : Hid (∀ w, Calls Try.prog 12 #[.int .u8 (a : Int), .int .u8 2] w fun e w' => e = .returned (.int .u8 (D a : Nat)) ∧ w' = w) := fun w => by
    have := cR.out a 2 ha (by decide) w
    rw [e1.out] at this; exact this
  go_enter Try.func3, Try.ntmps3
  go_wp2_with fail
  refine (cT.out a b ha hb _).mono ?_
  rintro e w' ⟨rfl, rfl⟩
  go_wp2_with fail
  refine (cR.out a b ha hb _).mono ?_
  rintro e w' ⟨rfl, rfl⟩
  go_wp2_with fail
  refine (cD.out a ha _).mono ?_
  rintro e w' ⟨rfl, rfl⟩
  go_wp2_with fail
  refine (k1.out _).mono ?_
  rintro e w' ⟨rfl, rfl⟩
  go_wp2_with fail
  refine (awake_any _).mono ?_
  rintro e w'' ⟨rfl, hbel⟩
  go_wp2
  go_ret
  exact ⟨rfl, hbel⟩
theorem times_walk (w : World) (a : Int) (ha : 0 ≤ a ∧ a ≤ 255) (b : Int) (hb : 0 ≤ b ∧ b ≤ 255) :
    Calls Try.prog 3 #[.int .u8 a, .int .u8 b] w fun e w' => e = .returned (.bool true) ∧ Below w.heap.size w w' := by
  obtain ⟨a, rfl⟩ := Int.eq_ofNat_of_zero_le ha.1
  obtain ⟨b, rfl⟩ := Int.eq_ofNat_of_zero_le hb.1
  have ha' : a < 256 := by omega
  have hb' : b < 256 := by omega
  exact times_core times (fun a b ha hb w => times_any a b ha hb w) (fun a b ha hb w => ref_times a b ha hb w) dbl (fun a ha w => double_any a ha w) a b ha' hb' (dbl_right a ha') w
set_option linter.unusedVariables false in
set_option maxRecDepth 100000 in
theorem gfTimes_lifted (os : Os) (started : os.Started) (H : Type) (enc : TypeId × Value → H) :
    ReturnsInHanded {} Try.checked os 3 .any (Rows.gfTimesSpec.pre6 enc Try.prog Try.f3 Rows.gfTimesRow.domain false) (Rows.gfTimesSpec.post enc Try.prog Try.f3 false true false false) := by
  refine returnsInHanded_of_change (C := Try.checked) own started (by kernel_rfl) Try.func3
    (ChangeSpec.witness6 (enc := enc) (C := Try.checked) false ⟨#[], #[.int .u8 0, .int .u8 0], []⟩ 8 (by kernel_rfl) (by kernel_rfl) (by kernel_rfl) (by kernel_rfl)) ?_
  intro W base args ds gs before hval0 hW hcnd _
  have hval : ∀ (j : Nat) t v, Try.f3.params[j]? = some t → args[j]? = some v → Value.okWide Try.prog W .any base t v := hval0
  have hW' := hW
  obtain ⟨p, q, hA0, hV, rfl, hfz, hnd⟩ := hW
  have hA : DataW.TrodAll enc Try.prog W 0 (fun _ => true) true Try.f3.params.toList args.toList ds p := hA0
  rw [Try.params3] at hA hval
  obtain ⟨v0, vs0, d0, ds0, p0, q0, hargs, rfl, rfl, h0, r0⟩ := trodAll_cons hA
  obtain ⟨v1, vs1, d1, ds1, p1, q1, rfl, rfl, rfl, h1, r1⟩ := trodAll_cons r0
  obtain ⟨rfl, rfl, rfl⟩ := trodAll_nil r1
  obtain rfl : args = #[v0, v1] := by cases args; simp_all
  obtain ⟨rfl, rfl⟩ := trodVars_none hV
  have lt0 : ∀ x ∈ p0, x.block < W.heap.size := by obtain ⟨m, hm⟩ := h0; exact DataW.trod_lt m _ _ _ hm
  have lt1 : ∀ x ∈ p1, x.block < W.heap.size := by obtain ⟨m, hm⟩ := h1; exact DataW.trod_lt m _ _ _ hm
  obtain ⟨n0, rfl, hd0, hp0, wn0⟩ := open_int Try.underlying5 (hval 0 5 v0 rfl rfl) h0
  obtain ⟨n1, rfl, hd1, hp1, wn1⟩ := open_int Try.underlying5 (hval 1 5 v1 rfl rfl) h1
  clear hA0 hval0
  refine (times_walk W n0 (bounds_u8 wn0) n1 (bounds_u8 wn1)).mono fun e W' ⟨he, bel⟩ => ?_
  subst he
  exact ⟨_, rfl, _, _, _, [], _, [], hW', trodAll_mk1 (shut_bool Try.underlying4 _), (trodAll_cons_mk (Below.trod laidOut (by kernel_rfl) (of_decide_eq_true (by kernel_rfl)) h0 bel lt0) (trodAll_cons_mk (Below.trod laidOut (by kernel_rfl) (of_decide_eq_true (by kernel_rfl)) h1 bel lt1) trodAll_mk0)), rfl, bel.frame _, fun h => by cases h⟩

theorem gfTimes_holds : Rows.GfTimesSaid :=
  OpenClaim.holds_of_wide 3 Try.f3 rfl rfl rfl rfl rfl rfl rfl ⟨rfl, rfl, rfl, rfl, rfl⟩ rfl rfl rfl rfl rfl (by kernel_rfl) Try.func3 (by kernel_rfl)
    (of_decide_eq_true (by kernel_rfl)) (by unfold Func.isWrapper; first | (rw [if_pos (by decide +kernel)]; kernel_rfl) | (rw [if_neg (by decide +kernel)]; exact ⟨rfl, rfl⟩))
    (fun os started H enc _ => gfTimes_lifted os started H enc)
#print axioms gfTimes_holds

end Go.Proofs.Ytflpckfdickbhaa
