/- Proved here: for all bytes a, b GfField returns true and leaves its arguments as they were (it is a field: an element and its inverse come to 1, a product is 0 just if one of both is); no condition. -/
import Derived.Test.YtflpckfdickbhaaMake
import Derived.Test.YtflpckfdickbhaaLift
namespace Go.Proofs.Ytflpckfdickbhaa
open Go.ChangeShapes Go.WideShapes Go.ChangeAt Go.RowKit

set_option maxHeartbeats 1600000 in
theorem field_zero (T : Nat → Nat → Nat) (cT : Hid (∀ a b : Nat, a < 256 → b < 256 → ∀ w, Calls Try.prog 11 #[.int .u8 (a : Int), .int .u8 (b : Int)] w fun e w' => e = .returned (.int .u8 (T a b : Nat)) ∧ w' = w)) (I : Nat → Nat) (cI : Hid (∀ a : Nat, a < 256 → ∀ w, Calls Try.prog 18 #[.int .u8 (a : Int)] w fun e w' => e = .returned (.int .u8 (I a : Nat)) ∧ w' = w)) (a b : Nat) (ha : a < 256) (hb : b < 256) (h0 : Hid (I 0 = 0)) (ea : ((a : Int) == 0) = true) (e1 : Hid (T a b = 0)) (w : World) :
    Calls Try.prog 7 #[.int .u8 a, .int .u8 b] w fun e w' => e = .returned (.bool true) ∧ Below w.heap.size w w' := by
  have k0 : Hid (∀ w, Calls Try.prog 11 #[.int .u8 (a : Int), .int .u8 (b : Int)] w fun e w' => e = .returned (.int .u8 0) ∧ w' = w) := fun w => by
    have := cT.out a b ha hb w
    rw [e1.out] at this; exact this
  have k1 : Hid (∀ w, Calls Try.prog 18 #[.int .u8 0] w fun e w' => e = .returned (.int .u8 0) ∧ w' = w) := fun w => by
    have := cI.out 0 (by decide) w
    rw [h0.out] at this; exact this
  go_enter Try.func7, Try.ntmps7
  go_wp2_with fail
  refine (k0.out _).mono ?_
  rintro e w' ⟨rfl, rfl⟩
  go_wp2_with fail
  refine (k1.out _).mono ?_
  rintro e w' ⟨rfl, rfl⟩
  go_wp2_with fail
  refine (awake_any _).mono ?_
  rintro e w'' ⟨rfl, hbel⟩
  go_wp2
  go_ret
  exact ⟨rfl, hbel⟩
set_option maxHeartbeats 1600000 in
theorem field_one (T : Nat → Nat → Nat) (cT : Hid (∀ a b : Nat, a < 256 → b < 256 → ∀ w, Calls Try.prog 11 #[.int .u8 (a : Int), .int .u8 (b : Int)] w fun e w' => e = .returned (.int .u8 (T a b : Nat)) ∧ w' = w)) (I : Nat → Nat) (cI : Hid (∀ a : Nat, a < 256 → ∀ w, Calls Try.prog 18 #[.int .u8 (a : Int)] w fun e w' => e = .returned (.int .u8 (I a : Nat)) ∧ w' = w)) (a b : Nat) (ha : a < 256) (hb : b < 256) (hI : Hid (∀ a, a < 256 → I a < 256)) (eb : Bool) (ea : ((a : Int) == 0) = false) (h1 : ((b : Int) == 0) = eb) (h2 : (((T a b : Nat) : Int) == 0) = eb) (h3 : Hid (T a (I a) = 1)) (h4 : Hid (I (I a) = a)) (w : World) :
    Calls Try.prog 7 #[.int .u8 a, .int .u8 b] w fun e w' => e = .returned (.bool true) ∧ Below w.heap.size w w' := by
  have k1 : Hid (∀ w, Calls Try.prog 11 #[.int .u8 (a : Int), .int .u8 (I a : Nat)] w fun e w' => e = .returned (.int .u8 1) ∧ w' = w) := fun w => by
    have := cT.out a (I a) ha (hI.out a ha) w
    rw [h3.out] at this; exact this
  have k2 : Hid (∀ w, Calls Try.prog 18 #[.int .u8 (I a : Nat)] w fun e w' => e = .returned (.int .u8 (a : Nat)) ∧ w' = w) := fun w => by
    have := cI.out (I a) (hI.out a ha) w
    rw [h4.out] at this; exact this
  cases eb
  all_goals (
    go_enter Try.func7, Try.ntmps7
    go_wp2_with fail
    refine (cT.out a b ha hb _).mono ?_
    rintro e w' ⟨rfl, rfl⟩
    go_wp2_with fail
    refine (cI.out a ha _).mono ?_
    rintro e w' ⟨rfl, rfl⟩
    go_wp2_with fail
    refine (k1.out _).mono ?_
    rintro e w' ⟨rfl, rfl⟩
    go_wp2_with fail
    refine (cI.out a ha _).mono ?_
    rintro e w' ⟨rfl, rfl⟩
    go_wp2_with fail
    refine (k2.out _).mono ?_
    rintro e w' ⟨rfl, rfl⟩
    go_wp2_with fail
    refine (awake_any _).mono ?_
    rintro e w'' ⟨rfl, hbel⟩
    go_wp2
    go_ret
    exact ⟨rfl, hbel⟩)
theorem field_walk (w : World) (a : Int) (ha : 0 ≤ a ∧ a ≤ 255) (b : Int) (hb : 0 ≤ b ∧ b ≤ 255) :
    Calls Try.prog 7 #[.int .u8 a, .int .u8 b] w fun e w' => e = .returned (.bool true) ∧ Below w.heap.size w w' := by
  obtain ⟨a, rfl⟩ := Int.eq_ofNat_of_zero_le ha.1
  obtain ⟨b, rfl⟩ := Int.eq_ofNat_of_zero_le hb.1
  have ha' : a < 256 := by omega
  have hb' : b < 256 := by omega
  by_cases h : a = 0
  · subst h
    exact field_zero times (fun a b ha hb w => times_any a b ha hb w) inv (fun a ha w => inverse_any a ha w) 0 b ha' hb' inv_zero rfl (zero_times b) w
  · have hz := times_eq_zero a b ha' hb'
    refine field_one times (fun a b ha hb w => times_any a b ha hb w) inv (fun a ha w => inverse_any a ha w) a b ha' hb' (fun a h => inv_lt a h) (decide (b = 0)) ?_ ?_ ?_ (times_inv a ha' h) (inv_inv a ha') w
    · rw [beq_eq_false_iff_ne]; omega
    · by_cases h2 : b = 0
      · subst h2; rfl
      · rw [decide_eq_false h2, beq_eq_false_iff_ne]; omega
    · by_cases h2 : b = 0
      · rw [decide_eq_true h2, hz.2 (.inr h2)]; rfl
      · have : times a b ≠ 0 := fun h3 => (hz.1 h3).elim h h2
        rw [decide_eq_false h2, beq_eq_false_iff_ne]; omega
set_option linter.unusedVariables false in
set_option maxRecDepth 100000 in
theorem gfField_lifted (os : Os) (started : os.Started) (H : Type) (enc : TypeId × Value → H) :
    ReturnsInHanded {} Try.checked os 7 .any (Rows.gfFieldSpec.pre6 enc Try.prog Try.f7 Rows.gfFieldRow.domain false) (Rows.gfFieldSpec.post enc Try.prog Try.f7 false true false false) := by
  refine returnsInHanded_of_change (C := Try.checked) own started (by kernel_rfl) Try.func7
    (ChangeSpec.witness6 (enc := enc) (C := Try.checked) false ⟨#[], #[.int .u8 0, .int .u8 0], []⟩ 8 (by kernel_rfl) (by kernel_rfl) (by kernel_rfl) (by kernel_rfl)) ?_
  intro W base args ds gs before hval0 hW hcnd _
  have hval : ∀ (j : Nat) t v, Try.f7.params[j]? = some t → args[j]? = some v → Value.okWide Try.prog W .any base t v := hval0
  have hW' := hW
  obtain ⟨p, q, hA0, hV, rfl, hfz, hnd⟩ := hW
  have hA : DataW.TrodAll enc Try.prog W 0 (fun _ => true) true Try.f7.params.toList args.toList ds p := hA0
  rw [Try.params7] at hA hval
  obtain ⟨v0, vs0, d0, ds0, p0, q0, hargs, rfl, rfl, h0, r0⟩ := trodAll_cons hA
  obtain ⟨v1, vs1, d1, ds1, p1, q1, rfl, rfl, rfl, h1, r1⟩ := trodAll_cons r0
  obtain ⟨rfl, rfl, rfl⟩ := trodAll_nil r1
  obtain rfl : args = #[v0, v1] := by cases args; simp_all
  obtain ⟨rfl, rfl⟩ := trodVars_none hV
  have lt0 : ∀ x ∈ p0, x.block < W.heap.size := by obtain ⟨m, hm⟩ := h0; exact DataW.trod_lt m _ _ _ hm
  have lt1 : ∀ x ∈ p1, x.block < W.heap.size := by obtain ⟨m, hm⟩ := h1; exact DataW.trod_lt m _ _ _ hm
  obtain ⟨n0, rfl, hd0, hp0, wn0⟩ := open_int Try.underlying5 (hval 0 5 v0 rfl rfl) h0
  obtain ⟨n1, rfl, hd1, hp1, wn1⟩ := open_int Try.underlying5 (hval 1 5 v1 rfl rfl) h1
  clear hA0 hval0
  refine (field_walk W n0 (bounds_u8 wn0) n1 (bounds_u8 wn1)).mono fun e W' ⟨he, bel⟩ => ?_
  subst he
  exact ⟨_, rfl, _, _, _, [], _, [], hW', trodAll_mk1 (shut_bool Try.underlying4 _), (trodAll_cons_mk (Below.trod laidOut (by kernel_rfl) (of_decide_eq_true (by kernel_rfl)) h0 bel lt0) (trodAll_cons_mk (Below.trod laidOut (by kernel_rfl) (of_decide_eq_true (by kernel_rfl)) h1 bel lt1) trodAll_mk0)), rfl, bel.frame _, fun h => by cases h⟩

theorem gfField_holds : Rows.GfFieldSaid :=
  OpenClaim.holds_of_wide 7 Try.f7 rfl rfl rfl rfl rfl rfl rfl ⟨rfl, rfl, rfl, rfl, rfl⟩ rfl rfl rfl rfl rfl (by kernel_rfl) Try.func7 (by kernel_rfl)
    (of_decide_eq_true (by kernel_rfl)) (by unfold Func.isWrapper; first | (rw [if_pos (by decide +kernel)]; kernel_rfl) | (rw [if_neg (by decide +kernel)]; exact ⟨rfl, rfl⟩))
    (fun os started H enc _ => gfField_lifted os started H enc)
#print axioms gfField_holds

end Go.Proofs.Ytflpckfdickbhaa
