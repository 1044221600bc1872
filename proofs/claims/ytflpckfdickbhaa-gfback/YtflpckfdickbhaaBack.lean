/- Proved here: for all bytes a, b GfBack returns true and leaves its arguments as they were (the box back of a box is the byte, and the other way round; no two bytes have one box, none its own or its complement); no condition. -/
import Derived.Test.YtflpckfdickbhaaMake
import Derived.Test.YtflpckfdickbhaaLift
namespace Go.Proofs.Ytflpckfdickbhaa
open Go.ChangeShapes Go.WideShapes Go.ChangeAt Go.RowKit

set_option maxHeartbeats 1600000 in
theorem back_core (S I : Nat → Nat) (B : World → Nat → Prop) (a b : Nat) (ha : a < 256) (hb : b < 256) (hS : Hid (∀ a, a < 256 → S a < 256)) (hI : Hid (∀ a, a < 256 → I a < 256)) (w : World)
    (cM : Hid (Calls Try.prog 17 #[] w fun e w' => e = .returned (.pointer (some ⟨w.heap.size, 0, none⟩)) ∧ B w' w.heap.size ∧ Below w.heap.size w w'))
    (cS : Hid (∀ g w, B w g → ∀ a : Nat, a < 256 → Calls Try.prog 20 #[.pointer (some ⟨g, 0, none⟩), .int .u8 (a : Int)] w fun e w' => e = .returned (.int .u8 (S a : Nat)) ∧ w' = w))
    (cI : Hid (∀ g w, B w g → ∀ a : Nat, a < 256 → Calls Try.prog 22 #[.pointer (some ⟨g, 0, none⟩), .int .u8 (a : Int)] w fun e w' => e = .returned (.int .u8 (I a : Nat)) ∧ w' = w))
    (e1 : I (S a) = a) (e2 : S (I a) = a) (e3 : (((S a : Nat) : Int) == ((S b : Nat) : Int)) = ((a : Int) == (b : Int))) (e4 : (((S a : Nat) : Int) != (a : Int)) = true) (e5 : ¬ (((S a : Nat) : Int) = bits .xor .u8 IntKind.u8.max (a : Int))) :
    Calls Try.prog 8 #[.int .u8 a, .int .u8 b] w fun e w' => e = .returned (.bool true) ∧ Below w.heap.size w w' := by
  have e6 : (((S a : Nat) : Int) == bits .xor .u8 IntKind.u8.max (a : Int)) = false := beq_eq_false_iff_ne.2 e5
  have e7 : (((S a : Nat) : Int) != bits .xor .u8 IntKind.u8.max (a : Int)) = true := bne_iff_ne.2 e5
  go_enter Try.func8, Try.ntmps8
  go_wp2_with fail
  refine (cM.out).mono ?_
  rintro e w1 ⟨rfl, hB, hb1⟩
  have HB := hide hB
  clear hB
  go_wp2_with fail
  refine (cS.out _ _ HB.out a ha).mono ?_
  rintro e w' ⟨rfl, rfl⟩
  go_wp2_with fail
  refine (cI.out _ _ HB.out (S a) (hS.out a ha)).mono ?_
  rintro e w' ⟨rfl, rfl⟩
  go_wp2_with fail
  refine (cI.out _ _ HB.out a ha).mono ?_
  rintro e w' ⟨rfl, rfl⟩
  go_wp2_with fail
  refine (cS.out _ _ HB.out (I a) (hI.out a ha)).mono ?_
  rintro e w' ⟨rfl, rfl⟩
  go_wp2_with fail
  refine (cS.out _ _ HB.out a ha).mono ?_
  rintro e w' ⟨rfl, rfl⟩
  go_wp2_with fail
  refine (cS.out _ _ HB.out b hb).mono ?_
  rintro e w' ⟨rfl, rfl⟩
  go_wp2_with fail
  refine (cS.out _ _ HB.out a ha).mono ?_
  rintro e w' ⟨rfl, rfl⟩
  go_wp2_with fail
  refine (cS.out _ _ HB.out a ha).mono ?_
  rintro e w' ⟨rfl, rfl⟩
  go_wp2_with fail
  refine (awake_any _).mono ?_
  rintro e w'' ⟨rfl, hbel⟩
  go_wp2
  go_ret
  exact ⟨rfl, hb1.trans (hbel.mono hb1.size)⟩
theorem sbox_not : ∀ a, a < 256 → sbox a ≠ 255 ^^^ a := by decide +kernel
theorem back_walk (w : World) (a : Int) (ha : 0 ≤ a ∧ a ≤ 255) (b : Int) (hb : 0 ≤ b ∧ b ≤ 255) :
    Calls Try.prog 8 #[.int .u8 a, .int .u8 b] w fun e w' => e = .returned (.bool true) ∧ Below w.heap.size w w' := by
  obtain ⟨a, rfl⟩ := Int.eq_ofNat_of_zero_le ha.1
  obtain ⟨b, rfl⟩ := Int.eq_ofNat_of_zero_le hb.1
  have ha' : a < 256 := by omega
  have hb' : b < 256 := by omega
  have o := sbox_other a ha'
  refine back_core sbox isb IsBoxes a b ha' hb' (fun a h => sbox_lt a h) (fun a h => (sbox_isb a h).2) w (make_any w) (fun g w h a ha => to_box g a ha w h) (fun g w h a ha => back_box g a ha w h) (isb_sbox a ha') (sbox_isb a ha').1 ?_ ?_ ?_
  · by_cases h : a = b
    · subst h; simp
    · have : sbox a ≠ sbox b := fun h2 => h (sbox_inj a b ha' hb' h2)
      rw [beq_eq_false_iff_ne.2 (by omega), beq_eq_false_iff_ne.2 (by omega)]
  · rw [bne_iff_ne]; have := o.1; omega
  · have e : bits .xor .u8 IntKind.u8.max (a : Int) = ((255 ^^^ a : Nat) : Int) := xor_u8 255 a (by decide) ha'
    rw [e]; have := sbox_not a ha'; omega
set_option linter.unusedVariables false in
set_option maxRecDepth 100000 in
theorem gfBack_lifted (os : Os) (started : os.Started) (H : Type) (enc : TypeId × Value → H) :
    ReturnsInHanded {} Try.checked os 8 .any (Rows.gfBackSpec.pre6 enc Try.prog Try.f8 Rows.gfBackRow.domain false) (Rows.gfBackSpec.post enc Try.prog Try.f8 false true false false) := by
  refine returnsInHanded_of_change (C := Try.checked) own started (by kernel_rfl) Try.func8
    (ChangeSpec.witness6 (enc := enc) (C := Try.checked) false ⟨#[], #[.int .u8 0, .int .u8 0], []⟩ 8 (by kernel_rfl) (by kernel_rfl) (by kernel_rfl) (by kernel_rfl)) ?_
  intro W base args ds gs before hval0 hW hcnd _
  have hval : ∀ (j : Nat) t v, Try.f8.params[j]? = some t → args[j]? = some v → Value.okWide Try.prog W .any base t v := hval0
  have hW' := hW
  obtain ⟨p, q, hA0, hV, rfl, hfz, hnd⟩ := hW
  have hA : DataW.TrodAll enc Try.prog W 0 (fun _ => true) true Try.f8.params.toList args.toList ds p := hA0
  rw [Try.params8] at hA hval
  obtain ⟨v0, vs0, d0, ds0, p0, q0, hargs, rfl, rfl, h0, r0⟩ := trodAll_cons hA
  obtain ⟨v1, vs1, d1, ds1, p1, q1, rfl, rfl, rfl, h1, r1⟩ := trodAll_cons r0
  obtain ⟨rfl, rfl, rfl⟩ := trodAll_nil r1
  obtain rfl : args = #[v0, v1] := by cases args; simp_all
  obtain ⟨rfl, rfl⟩ := trodVars_none hV
  have lt0 : ∀ x ∈ p0, x.block < W.heap.size := by obtain ⟨m, hm⟩ := h0; exact DataW.trod_lt m _ _ _ hm
  have lt1 : ∀ x ∈ p1, x.block < W.heap.size := by obtain ⟨m, hm⟩ := h1; exact DataW.trod_lt m _ _ _ hm
  obtain ⟨n0, rfl, hd0, hp0, wn0⟩ := open_int Try.underlying5 (hval 0 5 v0 rfl rfl) h0
  obtain ⟨n1, rfl, hd1, hp1, wn1⟩ := open_int Try.underlying5 (hval 1 5 v1 rfl rfl) h1
  clear hA0 hval0
  refine (back_walk W n0 (bounds_u8 wn0) n1 (bounds_u8 wn1)).mono fun e W' ⟨he, bel⟩ => ?_
  subst he
  exact ⟨_, rfl, _, _, _, [], _, [], hW', trodAll_mk1 (shut_bool Try.underlying4 _), (trodAll_cons_mk (Below.trod laidOut (by kernel_rfl) (of_decide_eq_true (by kernel_rfl)) h0 bel lt0) (trodAll_cons_mk (Below.trod laidOut (by kernel_rfl) (of_decide_eq_true (by kernel_rfl)) h1 bel lt1) trodAll_mk0)), rfl, bel.frame _, fun h => by cases h⟩

theorem gfBack_holds : Rows.GfBackSaid :=
  OpenClaim.holds_of_wide 8 Try.f8 rfl rfl rfl rfl rfl rfl rfl ⟨rfl, rfl, rfl, rfl, rfl⟩ rfl rfl rfl rfl rfl (by kernel_rfl) Try.func8 (by kernel_rfl)
    (of_decide_eq_true (by kernel_rfl)) (by unfold Func.isWrapper; first | (rw [if_pos (by decide +kernel)]; kernel_rfl) | (rw [if_neg (by decide +kernel)]; exact ⟨rfl, rfl⟩))
    (fun os started H enc _ => gfBack_lifted os started H enc)
#print axioms gfBack_holds

end Go.Proofs.Ytflpckfdickbhaa
