/- Proved here: for every byte a and all n, m of 16 bits GfRounds returns true and leaves its arguments as they were (powers add up; each element that is not 0, to the power of 255, is 1); no condition. -/
import Derived.Test.YtflpckfdickbhaaMake
import Derived.Test.YtflpckfdickbhaaLift
namespace Go.Proofs.Ytflpckfdickbhaa
open Go.ChangeShapes Go.WideShapes Go.ChangeAt Go.RowKit

set_option maxHeartbeats 1600000 in
theorem rounds_zero (T : Nat → Nat → Nat) (cT : Hid (∀ a b : Nat, a < 256 → b < 256 → ∀ w, Calls Try.prog 11 #[.int .u8 (a : Int), .int .u8 (b : Int)] w fun e w' => e = .returned (.int .u8 (T a b : Nat)) ∧ w' = w)) (P : Nat → Nat → Nat) (cP : Hid (∀ a n : Nat, a < 256 → n < 9223372036854775808 → ∀ w, Calls Try.prog 15 #[.int .u8 (a : Int), .int .i64 (n : Int)] w fun e w' => e = .returned (.int .u8 (P a n : Nat)) ∧ w' = w)) (hP : Hid (∀ a n, a < 256 → P a n < 256)) (a n m : Nat) (ha : a < 256) (hn : (n : Int) ≤ 65535) (hm : (m : Int) ≤ 65535) (ea : ((a : Int) == 0) = true)
    (e1 : Hid (P a (n + m) = T (P a n) (P a m))) (e2 : Hid (P a 1 = a)) (e3 : Hid (P 0 0 = 1)) (w : World) :
    Calls Try.prog 9 #[.int .u8 a, .int .u16 n, .int .u16 m] w fun e w' => e = .returned (.bool true) ∧ Below w.heap.size w w' := by
  have k1 : Hid (∀ w, Calls Try.prog 15 #[.int .u8 (a : Int), .int .i64 ((n : Int) + (m : Int))] w fun e w' => e = .returned (.int .u8 (T (P a n) (P a m) : Nat)) ∧ w' = w) := fun w => by
    have := cP.out a (n + m) ha (by omega) w
    rw [e1.out, Int.natCast_add] at this; exact this
  have k2 : Hid (∀ w, Calls Try.prog 15 #[.int .u8 (a : Int), .int .i64 1] w fun e w' => e = .returned (.int .u8 (a : Nat)) ∧ w' = w) := fun w => by
    have := cP.out a 1 ha (by decide) w
    rw [e2.out] at this; exact this
  have k3 : Hid (∀ w, Calls Try.prog 15 #[.int .u8 0, .int .i64 0] w fun e w' => e = .returned (.int .u8 1) ∧ w' = w) := fun w => by
    have := cP.out 0 0 (by decide) (by decide) w
    rw [e3.out] at this; exact this
  go_enter Try.func9, Try.ntmps9
  go_wp2_with fail
  refine (k1.out _).mono ?_
  rintro e w' ⟨rfl, rfl⟩
  go_wp2_with fail
  refine (cP.out a n ha (by omega) _).mono ?_
  rintro e w' ⟨rfl, rfl⟩
  go_wp2_with fail
  refine (cP.out a m ha (by omega) _).mono ?_
  rintro e w' ⟨rfl, rfl⟩
  go_wp2_with fail
  refine (cT.out (P a n) (P a m) (hP.out a n ha) (hP.out a m ha) _).mono ?_
  rintro e w' ⟨rfl, rfl⟩
  go_wp2_with fail
  refine (k2.out _).mono ?_
  rintro e w' ⟨rfl, rfl⟩
  go_wp2_with fail
  refine (k3.out _).mono ?_
  rintro e w' ⟨rfl, rfl⟩
  go_wp2_with fail
  refine (awake_any _).mono ?_
  rintro e w'' ⟨rfl, hbel⟩
  go_wp2
  go_ret
  exact ⟨rfl, hbel⟩
set_option maxHeartbeats 1600000 in
theorem rounds_one (T : Nat → Nat → Nat) (cT : Hid (∀ a b : Nat, a < 256 → b < 256 → ∀ w, Calls Try.prog 11 #[.int .u8 (a : Int), .int .u8 (b : Int)] w fun e w' => e = .returned (.int .u8 (T a b : Nat)) ∧ w' = w)) (P : Nat → Nat → Nat) (cP : Hid (∀ a n : Nat, a < 256 → n < 9223372036854775808 → ∀ w, Calls Try.prog 15 #[.int .u8 (a : Int), .int .i64 (n : Int)] w fun e w' => e = .returned (.int .u8 (P a n : Nat)) ∧ w' = w)) (hP : Hid (∀ a n, a < 256 → P a n < 256)) (a n m : Nat) (ha : a < 256) (hn : (n : Int) ≤ 65535) (hm : (m : Int) ≤ 65535) (ea : ((a : Int) == 0) = false)
    (e1 : Hid (P a (n + m) = T (P a n) (P a m))) (e2 : Hid (P a 1 = a)) (e3 : Hid (P a 255 = 1)) (e4 : Hid (P a (255 + n) = P a n)) (w : World) :
    Calls Try.prog 9 #[.int .u8 a, .int .u16 n, .int .u16 m] w fun e w' => e = .returned (.bool true) ∧ Below w.heap.size w w' := by
  have k1 : Hid (∀ w, Calls Try.prog 15 #[.int .u8 (a : Int), .int .i64 ((n : Int) + (m : Int))] w fun e w' => e = .returned (.int .u8 (T (P a n) (P a m) : Nat)) ∧ w' = w) := fun w => by
    have := cP.out a (n + m) ha (by omega) w
    rw [e1.out, Int.natCast_add] at this; exact this
  have k2 : Hid (∀ w, Calls Try.prog 15 #[.int .u8 (a : Int), .int .i64 1] w fun e w' => e = .returned (.int .u8 (a : Nat)) ∧ w' = w) := fun w => by
    have := cP.out a 1 ha (by decide) w
    rw [e2.out] at this; exact this
  have k3 : Hid (∀ w, Calls Try.prog 15 #[.int .u8 (a : Int), .int .i64 255] w fun e w' => e = .returned (.int .u8 1) ∧ w' = w) := fun w => by
    have := cP.out a 255 ha (by decide) w
    rw [e3.out] at this; exact this
  have k4 : Hid (∀ w, Calls Try.prog 15 #[.int .u8 (a : Int), .int .i64 (255 + (n : Int))] w fun e w' => e = .returned (.int .u8 (P a n : Nat)) ∧ w' = w) := fun w => by
    have := cP.out a (255 + n) ha (by omega) w
    rw [e4.out, Int.natCast_add] at this; exact this
  go_enter Try.func9, Try.ntmps9
  go_wp2_with fail
  refine (k1.out _).mono ?_
  rintro e w' ⟨rfl, rfl⟩
  go_wp2_with fail
  refine (cP.out a n ha (by omega) _).mono ?_
  rintro e w' ⟨rfl, rfl⟩
  go_wp2_with fail
  refine (cP.out a m ha (by omega) _).mono ?_
  rintro e w' ⟨rfl, rfl⟩
  go_wp2_with fail
  refine (cT.out (P a n) (P a m) (hP.out a n ha) (hP.out a m ha) _).mono ?_
  rintro e w' ⟨rfl, rfl⟩
  go_wp2_with fail
  refine (k2.out _).mono ?_
  rintro e w' ⟨rfl, rfl⟩
  go_wp2_with fail
  refine (k3.out _).mono ?_
  rintro e w' ⟨rfl, rfl⟩
  go_wp2_with fail
  refine (k4.out _).mono ?_
  rintro e w' ⟨rfl, rfl⟩
  go_wp2_with fail
  refine (cP.out a n ha (by omega) _).mono ?_
  rintro e w' ⟨rfl, rfl⟩
  go_wp2_with fail
  refine (awake_any _).mono ?_
  rintro e w'' ⟨rfl, hbel⟩
  go_wp2
  go_ret
  exact ⟨rfl, hbel⟩
theorem rounds_walk (w : World) (a : Int) (ha : 0 ≤ a ∧ a ≤ 255) (n : Int) (hn : 0 ≤ n ∧ n ≤ 65535) (m : Int) (hm : 0 ≤ m ∧ m ≤ 65535) :
    Calls Try.prog 9 #[.int .u8 a, .int .u16 n, .int .u16 m] w fun e w' => e = .returned (.bool true) ∧ Below w.heap.size w w' := by
  obtain ⟨a, rfl⟩ := Int.eq_ofNat_of_zero_le ha.1
  obtain ⟨n, rfl⟩ := Int.eq_ofNat_of_zero_le hn.1
  obtain ⟨m, rfl⟩ := Int.eq_ofNat_of_zero_le hm.1
  have ha' : a < 256 := by omega
  by_cases h : a = 0
  · exact rounds_zero times (fun a b ha hb w => times_any a b ha hb w) pw (fun a n ha hn w => power_any a n ha hn w) (fun a n h => pw_lt a h n) a n m ha' hn.2 hm.2 (by subst h; rfl) (pw_add a ha' n m) (pw_one a ha') rfl w
  · exact rounds_one times (fun a b ha hb w => times_any a b ha hb w) pw (fun a n ha hn w => power_any a n ha hn w) (fun a n h => pw_lt a h n) a n m ha' hn.2 hm.2 (by rw [beq_eq_false_iff_ne]; omega) (pw_add a ha' n m) (pw_one a ha') (pw_255 a ha' h) (pw_255_add a n ha' h) w
set_option linter.unusedVariables false in
set_option maxRecDepth 100000 in
theorem gfRounds_lifted (os : Os) (started : os.Started) (H : Type) (enc : TypeId × Value → H) :
    ReturnsInHanded {} Try.checked os 9 .any (Rows.gfRoundsSpec.pre6 enc Try.prog Try.f9 Rows.gfRoundsRow.domain false) (Rows.gfRoundsSpec.post enc Try.prog Try.f9 false true false false) := by
  refine returnsInHanded_of_change (C := Try.checked) own started (by kernel_rfl) Try.func9
    (ChangeSpec.witness6 (enc := enc) (C := Try.checked) false ⟨#[], #[.int .u8 0, .int .u16 0, .int .u16 0], []⟩ 8 (by kernel_rfl) (by kernel_rfl) (by kernel_rfl) (by kernel_rfl)) ?_
  intro W base args ds gs before hval0 hW hcnd _
  have hval : ∀ (j : Nat) t v, Try.f9.params[j]? = some t → args[j]? = some v → Value.okWide Try.prog W .any base t v := hval0
  have hW' := hW
  obtain ⟨p, q, hA0, hV, rfl, hfz, hnd⟩ := hW
  have hA : DataW.TrodAll enc Try.prog W 0 (fun _ => true) true Try.f9.params.toList args.toList ds p := hA0
  rw [Try.params9] at hA hval
  obtain ⟨v0, vs0, d0, ds0, p0, q0, hargs, rfl, rfl, h0, r0⟩ := trodAll_cons hA
  obtain ⟨v1, vs1, d1, ds1, p1, q1, rfl, rfl, rfl, h1, r1⟩ := trodAll_cons r0
  obtain ⟨v2, vs2, d2, ds2, p2, q2, rfl, rfl, rfl, h2, r2⟩ := trodAll_cons r1
  obtain ⟨rfl, rfl, rfl⟩ := trodAll_nil r2
  obtain rfl : args = #[v0, v1, v2] := by cases args; simp_all
  obtain ⟨rfl, rfl⟩ := trodVars_none hV
  have lt0 : ∀ x ∈ p0, x.block < W.heap.size := by obtain ⟨m, hm⟩ := h0; exact DataW.trod_lt m _ _ _ hm
  have lt1 : ∀ x ∈ p1, x.block < W.heap.size := by obtain ⟨m, hm⟩ := h1; exact DataW.trod_lt m _ _ _ hm
  have lt2 : ∀ x ∈ p2, x.block < W.heap.size := by obtain ⟨m, hm⟩ := h2; exact DataW.trod_lt m _ _ _ hm
  obtain ⟨n0, rfl, hd0, hp0, wn0⟩ := open_int Try.underlying5 (hval 0 5 v0 rfl rfl) h0
  obtain ⟨n1, rfl, hd1, hp1, wn1⟩ := open_int Try.underlying35 (hval 1 35 v1 rfl rfl) h1
  obtain ⟨n2, rfl, hd2, hp2, wn2⟩ := open_int Try.underlying35 (hval 2 35 v2 rfl rfl) h2
  clear hA0 hval0
  refine (rounds_walk W n0 (bounds_u8 wn0) n1 (bounds_u16 wn1) n2 (bounds_u16 wn2)).mono fun e W' ⟨he, bel⟩ => ?_
  subst he
  exact ⟨_, rfl, _, _, _, [], _, [], hW', trodAll_mk1 (shut_bool Try.underlying4 _), (trodAll_cons_mk (Below.trod laidOut (by kernel_rfl) (of_decide_eq_true (by kernel_rfl)) h0 bel lt0) (trodAll_cons_mk (Below.trod laidOut (by kernel_rfl) (of_decide_eq_true (by kernel_rfl)) h1 bel lt1) (trodAll_cons_mk (Below.trod laidOut (by kernel_rfl) (of_decide_eq_true (by kernel_rfl)) h2 bel lt2) trodAll_mk0))), rfl, bel.frame _, fun h => by cases h⟩

theorem gfRounds_holds : Rows.GfRoundsSaid :=
  OpenClaim.holds_of_wide 9 Try.f9 rfl rfl rfl rfl rfl rfl rfl ⟨rfl, rfl, rfl, rfl, rfl⟩ rfl rfl rfl rfl rfl (by kernel_rfl) Try.func9 (by kernel_rfl)
    (of_decide_eq_true (by kernel_rfl)) (by unfold Func.isWrapper; first | (rw [if_pos (by decide +kernel)]; kernel_rfl) | (rw [if_neg (by decide +kernel)]; exact ⟨rfl, rfl⟩))
    (fun os started H enc _ => gfRounds_lifted os started H enc)
#print axioms gfRounds_holds

end Go.Proofs.Ytflpckfdickbhaa
