/- Proved here: for all bytes a, b GfDoubles returns true and leaves its arguments as they were (doubled eight times an element is its product with 27; no two elements have one double); no condition. -/
import Derived.Test.YtflpckfdickbhaaMake
import Derived.Test.YtflpckfdickbhaaLift
namespace Go.Proofs.Ytflpckfdickbhaa
open Go.ChangeShapes Go.WideShapes Go.ChangeAt Go.RowKit

def dblN (a : Nat) : Nat → Nat
  | 0 => a
  | k + 1 => dbl (dblN a k)
theorem dbl_8 : ∀ a, a < 256 → dblN a 8 = times a 27 := by decide +kernel
theorem dbl_2 : ∀ a, a < 256 → dbl a = times 2 a := by decide +kernel
def half (x : Nat) : Nat := if x % 2 = 1 then (x ^^^ 27) / 2 + 128 else x / 2
theorem half_dbl : ∀ a, a < 256 → half (dbl a) = a := by decide +kernel
theorem dbl_inj (a b : Nat) (ha : a < 256) (hb : b < 256) : dbl a = dbl b ↔ a = b :=
  ⟨fun h => by rw [← half_dbl a ha, ← half_dbl b hb, h], fun h => by rw [h]⟩
theorem dblN_lt (a : Nat) (ha : a < 256) : ∀ k, dblN a k < 256
  | 0 => ha
  | _ + 1 => dbl_lt _
set_option maxHeartbeats 1600000 in
theorem doubles_core (T : Nat → Nat → Nat) (cT : Hid (∀ a b : Nat, a < 256 → b < 256 → ∀ w, Calls Try.prog 11 #[.int .u8 (a : Int), .int .u8 (b : Int)] w fun e w' => e = .returned (.int .u8 (T a b : Nat)) ∧ w' = w)) (D : Nat → Nat) (cD : Hid (∀ a : Nat, a < 256 → ∀ w, Calls Try.prog 13 #[.int .u8 (a : Int)] w fun e w' => e = .returned (.int .u8 (D a : Nat)) ∧ w' = w)) (N : Nat → Nat) (a b : Nat) (ha : a < 256) (hb : b < 256) (hN : Hid (∀ k, N k < 256)) (n0 : Hid (N 0 = a)) (n1 : Hid (∀ k, D (N k) = N (k + 1)))
    (e1 : Hid (N 8 = T a 27)) (e2 : Hid (T 2 a = D a)) (e3 : (((D a : Nat) : Int) == ((D b : Nat) : Int)) = ((a : Int) == (b : Int))) (w : World) :
    Calls Try.prog 10 #[.int .u8 a, .int .u8 b] w fun e w' => e = .returned (.bool true) ∧ Below w.heap.size w w' := by
  have k1 : Hid (∀ w, Calls Try.prog 11 #[.int .u8 (a : Int), .int .u8 27] w fun e w' => e = .returned (.int .u8 (N 8 : Nat)) ∧ w' = w) := fun w => by
    have := cT.out a 27 ha (by decide) w
    rw [← e1.out] at this; exact this
  have k2 : Hid (∀ w, Calls Try.prog 11 #[.int .u8 2, .int .u8 (a : Int)] w fun e w' => e = .returned (.int .u8 (D a : Nat)) ∧ w' = w) := fun w => by
    have := cT.out 2 a (by decide) ha w
    rw [e2.out] at this; exact this
  have kd : Hid (∀ k, ∀ w, Calls Try.prog 13 #[.int .u8 (N k : Nat)] w fun e w' => e = .returned (.int .u8 (N (k + 1) : Nat)) ∧ w' = w) := fun k w => by
    have := cD.out (N k) (hN.out k) w
    rw [n1.out] at this; exact this
  go_enter Try.func10, Try.ntmps10
  go_wp2_with fail
  go_loop [5, 6] (fun c i => ∃ k : Nat, k ≤ 8 ∧ i = .int .i64 k ∧ c = .int .u8 (N k : Nat)) (fun _ i => 8 - (intOf i).toNat)
  case atStart => exact ⟨0, by omega, rfl, by rw [n0.out]⟩
  case round =>
    obtain ⟨k, hk, rfl, rfl⟩ := hrel
    by_cases hlt : k < 8
    · go_wp2_with fail
      refine (kd.out k _).mono ?_
      rintro e w' ⟨rfl, rfl⟩
      go_wp2
      go_round
      case rel => exact ⟨k + 1, by omega, by go_num, rfl⟩
      case measure => simp [intOf]; omega
    · obtain rfl : k = 8 := by omega
      go_wp2_with fail
      refine (k1.out _).mono ?_
      rintro e w' ⟨rfl, rfl⟩
      go_wp2_with fail
      refine (cD.out a ha _).mono ?_
      rintro e w' ⟨rfl, rfl⟩
      go_wp2_with fail
      refine (k2.out _).mono ?_
      rintro e w' ⟨rfl, rfl⟩
      go_wp2_with fail
      refine (cD.out a ha _).mono ?_
      rintro e w' ⟨rfl, rfl⟩
      go_wp2_with fail
      refine (cD.out b hb _).mono ?_
      rintro e w' ⟨rfl, rfl⟩
      go_wp2_with fail
      refine (awake_any _).mono ?_
      rintro e w'' ⟨rfl, hbel⟩
      go_wp2
      go_ret
      exact ⟨rfl, hbel⟩
theorem doubles_walk (w : World) (a : Int) (ha : 0 ≤ a ∧ a ≤ 255) (b : Int) (hb : 0 ≤ b ∧ b ≤ 255) :
    Calls Try.prog 10 #[.int .u8 a, .int .u8 b] w fun e w' => e = .returned (.bool true) ∧ Below w.heap.size w w' := by
  obtain ⟨a, rfl⟩ := Int.eq_ofNat_of_zero_le ha.1
  obtain ⟨b, rfl⟩ := Int.eq_ofNat_of_zero_le hb.1
  have ha' : a < 256 := by omega
  have hb' : b < 256 := by omega
  refine doubles_core times (fun a b ha hb w => times_any a b ha hb w) dbl (fun a ha w => double_any a ha w) (dblN a) a b ha' hb' (dblN_lt a ha') rfl (fun k => rfl) (dbl_8 a ha') (dbl_2 a ha').symm ?_ w
  have hi := dbl_inj a b ha' hb'
  by_cases h : a = b
  · subst h; simp
  · have : dbl a ≠ dbl b := fun h2 => h (hi.1 h2)
    rw [beq_eq_false_iff_ne.2 (by omega), beq_eq_false_iff_ne.2 (by omega)]
set_option linter.unusedVariables false in
set_option maxRecDepth 100000 in
theorem gfDoubles_lifted (os : Os) (started : os.Started) (H : Type) (enc : TypeId × Value → H) :
    ReturnsInHanded {} Try.checked os 10 .any (Rows.gfDoublesSpec.pre6 enc Try.prog Try.f10 Rows.gfDoublesRow.domain false) (Rows.gfDoublesSpec.post enc Try.prog Try.f10 false true false false) := by
  refine returnsInHanded_of_change (C := Try.checked) own started (by kernel_rfl) Try.func10
    (ChangeSpec.witness6 (enc := enc) (C := Try.checked) false ⟨#[], #[.int .u8 0, .int .u8 0], []⟩ 8 (by kernel_rfl) (by kernel_rfl) (by kernel_rfl) (by kernel_rfl)) ?_
  intro W base args ds gs before hval0 hW hcnd _
  have hval : ∀ (j : Nat) t v, Try.f10.params[j]? = some t → args[j]? = some v → Value.okWide Try.prog W .any base t v := hval0
  have hW' := hW
  obtain ⟨p, q, hA0, hV, rfl, hfz, hnd⟩ := hW
  have hA : DataW.TrodAll enc Try.prog W 0 (fun _ => true) true Try.f10.params.toList args.toList ds p := hA0
  rw [Try.params10] at hA hval
  obtain ⟨v0, vs0, d0, ds0, p0, q0, hargs, rfl, rfl, h0, r0⟩ := trodAll_cons hA
  obtain ⟨v1, vs1, d1, ds1, p1, q1, rfl, rfl, rfl, h1, r1⟩ := trodAll_cons r0
  obtain ⟨rfl, rfl, rfl⟩ := trodAll_nil r1
  obtain rfl : args = #[v0, v1] := by cases args; simp_all
  obtain ⟨rfl, rfl⟩ := trodVars_none hV
  have lt0 : ∀ x ∈ p0, x.block < W.heap.size := by obtain ⟨m, hm⟩ := h0; exact DataW.trod_lt m _ _ _ hm
  have lt1 : ∀ x ∈ p1, x.block < W.heap.size := by obtain ⟨m, hm⟩ := h1; exact DataW.trod_lt m _ _ _ hm
  obtain ⟨n0, rfl, hd0, hp0, wn0⟩ := open_int Try.underlying5 (hval 0 5 v0 rfl rfl) h0
  obtain ⟨n1, rfl, hd1, hp1, wn1⟩ := open_int Try.underlying5 (hval 1 5 v1 rfl rfl) h1
  clear hA0 hval0
  refine (doubles_walk W n0 (bounds_u8 wn0) n1 (bounds_u8 wn1)).mono fun e W' ⟨he, bel⟩ => ?_
  subst he
  exact ⟨_, rfl, _, _, _, [], _, [], hW', trodAll_mk1 (shut_bool Try.underlying4 _), (trodAll_cons_mk (Below.trod laidOut (by kernel_rfl) (of_decide_eq_true (by kernel_rfl)) h0 bel lt0) (trodAll_cons_mk (Below.trod laidOut (by kernel_rfl) (of_decide_eq_true (by kernel_rfl)) h1 bel lt1) trodAll_mk0)), rfl, bel.frame _, fun h => by cases h⟩

theorem gfDoubles_holds : Rows.GfDoublesSaid :=
  OpenClaim.holds_of_wide 10 Try.f10 rfl rfl rfl rfl rfl rfl rfl ⟨rfl, rfl, rfl, rfl, rfl⟩ rfl rfl rfl rfl rfl (by kernel_rfl) Try.func10 (by kernel_rfl)
    (of_decide_eq_true (by kernel_rfl)) (by unfold Func.isWrapper; first | (rw [if_pos (by decide +kernel)]; kernel_rfl) | (rw [if_neg (by decide +kernel)]; exact ⟨rfl, rfl⟩))
    (fun os started H enc _ => gfDoubles_lifted os started H enc)
#print axioms gfDoubles_holds

end Go.Proofs.Ytflpckfdickbhaa
