/- Proved here: for all bytes b and every place at OctetSteps returns true and leaves its arguments as they were (a longer number is its halves, one behind the other); no condition. -/
import Derived.Test.YtlcjkmgeaiclbaaLoad
import Derived.Test.YtlcjkmgeaiclbaaLift
import Derived.ChangeOld
namespace Go.Proofs.Ytlcjkmgeaiclbaa
open Go.ChangeShapes Go.WideShapes Go.ChangeAt Go.RowKit

theorem steps_long (v : Value) (bs : List UInt8) (at' : Int) (w : World) (hv : IsB w v bs) (h : 300 < bs.length) :
    Calls Try.prog 11 #[v, .int .u16 at'] w fun e w' => e = .returned (.bool true) ∧ Below w.heap.size w w' := by
  obtain ⟨hn, a, c, rfl, hr⟩ := hv
  have h' : (300 : Int) < bs.length := by omega
  go_enter Try.func11, Try.ntmps11
  go_wp2
  go_ret
  exact ⟨rfl, Below.refl _ _⟩
theorem steps_far (v : Value) (bs : List UInt8) (at' : Int) (w : World) (hv : IsB w v bs) (h : bs.length ≤ 300) (ha : 1000 < at') :
    Calls Try.prog 11 #[v, .int .u16 at'] w fun e w' => e = .returned (.bool true) ∧ Below w.heap.size w w' := by
  obtain ⟨hn, a, c, rfl, hr⟩ := hv
  have h' : decide ((300 : Int) < bs.length) = false := by simp; omega
  go_enter Try.func11, Try.ntmps11
  go_wp2
  go_ret
  exact ⟨rfl, Below.refl _ _⟩
set_option maxHeartbeats 1600000 in
/-- The walk, each callee by what it owes; the numbers are letters. -/
theorem steps_core (a : Option Addr) (n c : Nat) (k : Nat) (w : World) (h : n ≤ 300) (ha : k ≤ 1000) (A B C D E : Nat) (hA : A < 4294967296) (hB : B < 4294967296)
    (e1 : bits .or .u64 (A : Int) ((B : Int) * 4294967296) = (C : Int))
    (c1 : Hid (∀ w', Below w.heap.size w w' → Calls Try.prog 14 #[.slice a n c, .int .i64 k] w' fun e w'' => e = .returned (.int .u32 (A : Nat)) ∧ Below w.heap.size w w''))
    (c2 : Hid (∀ w', Below w.heap.size w w' → Calls Try.prog 14 #[.slice a n c, .int .i64 ((k : Int) + 4)] w' fun e w'' => e = .returned (.int .u32 (B : Nat)) ∧ Below w.heap.size w w''))
    (c3 : Hid (∀ w', Below w.heap.size w w' → Calls Try.prog 16 #[.slice a n c, .int .i64 k] w' fun e w'' => e = .returned (.int .u64 (C : Nat)) ∧ Below w.heap.size w w''))
    (c4 : Hid (∀ w', Below w.heap.size w w' → Calls Try.prog 12 #[.slice a n c] w' fun e w'' => e = .returned (.agg #[.int .u64 (D : Nat), .int .u64 (E : Nat)]) ∧ Below w.heap.size w w''))
    (c5 : Hid (∀ w', Below w.heap.size w w' → Calls Try.prog 16 #[.slice a n c, .int .i64 0] w' fun e w'' => e = .returned (.int .u64 (D : Nat)) ∧ Below w.heap.size w w''))
    (c6 : Hid (∀ w', Below w.heap.size w w' → Calls Try.prog 16 #[.slice a n c, .int .i64 8] w' fun e w'' => e = .returned (.int .u64 (E : Nat)) ∧ Below w.heap.size w w'')) :
    Calls Try.prog 11 #[.slice a n c, .int .u16 k] w fun e w' => e = .returned (.bool true) ∧ Below w.heap.size w w' := by
  have h' : decide ((300 : Int) < n) = false := by simp; omega
  have ha' : decide ((1000 : Int) < k) = false := by simp; omega
  go_enter Try.func11, Try.ntmps11
  go_wp2_with fail
  refine (c1.out _ (Below.refl _ _)).mono ?_
  rintro e w1 ⟨rfl, b1⟩
  go_wp2_with fail
  refine (c2.out _ b1).mono ?_
  rintro e w2 ⟨rfl, b2⟩
  clear b1
  go_wp2_with fail
  refine (c3.out _ b2).mono ?_
  rintro e w3 ⟨rfl, b3⟩
  clear b2
  go_wp2_with fail
  refine (c4.out _ b3).mono ?_
  rintro e w4 ⟨rfl, b4⟩
  clear b3
  go_wp2_with fail
  refine (c5.out _ b4).mono ?_
  rintro e w5 ⟨rfl, b5⟩
  clear b4
  go_wp2_with fail
  refine (c6.out _ b5).mono ?_
  rintro e w6 ⟨rfl, b6⟩
  clear b5
  go_wp2_with fail
  refine (based (awake_any _) b6).mono ?_
  rintro e w7 ⟨rfl, b7⟩
  clear b6
  go_wp2
  go_ret
  exact ⟨rfl, b7⟩
theorem steps_near (v : Value) (bs : List UInt8) (k : Nat) (w : World) (hv : IsB w v bs) (h : bs.length ≤ 300) (ha : k ≤ 1000) :
    Calls Try.prog 11 #[v, .int .u16 k] w fun e w' => e = .returned (.bool true) ∧ Below w.heap.size w w' := by
  obtain ⟨a, c, rfl⟩ : ∃ a c, v = .slice a bs.length c := by obtain ⟨_, a, c, e, _⟩ := hv; exact ⟨a, c, e⟩
  have e1 := or_high2 (num bs k 4) (num bs (k + 4) 4) (num_lt bs k 4) (num_lt bs (k + 4) 4)
  rw [← num_split] at e1
  exact steps_core a bs.length c k w h ha _ _ _ _ _ (num_lt bs k 4) (num_lt bs (k + 4) 4) e1
    (fun w' hb => based (word_any _ bs k _ (hv.later hb)) hb) (fun w' hb => based (word_any _ bs (k + 4) _ (hv.later hb)) hb) (fun w' hb => based (long_any _ bs k _ (hv.later hb)) hb)
    (fun w' hb => based (load_any _ bs _ (hv.later hb)) hb) (fun w' hb => based (long_any _ bs 0 _ (hv.later hb)) hb) (fun w' hb => based (long_any _ bs 8 _ (hv.later hb)) hb)
theorem steps_walk (w : World) (v : Value) (bs : List UInt8) (hv : IsB w v bs) (at' : Int) (ha : 0 ≤ at' ∧ at' ≤ 65535) :
    Calls Try.prog 11 #[v, .int .u16 at'] w fun e w' => e = .returned (.bool true) ∧ Below w.heap.size w w' := by
  by_cases h : 300 < bs.length
  · exact steps_long v bs at' _ hv h
  by_cases h2 : 1000 < at'
  · exact steps_far v bs at' _ hv (by omega) h2
  obtain ⟨k, rfl⟩ := Int.eq_ofNat_of_zero_le ha.1
  exact steps_near v bs k _ hv (by omega) (by omega)
set_option linter.unusedVariables false in
set_option maxRecDepth 100000 in
theorem octetSteps_lifted (os : Os) (started : os.Started) (H : Type) (enc : TypeId × Value → H) :
    ReturnsInHanded {} Try.checked os 11 .any (Rows.octetStepsSpec.pre6 enc Try.prog Try.f11 Rows.octetStepsRow.domain false) (Rows.octetStepsSpec.post enc Try.prog Try.f11 false true false false) := by
  refine returnsInHanded_of_change (C := Try.checked) own started (by kernel_rfl) Try.func11
    (ChangeSpec.witness6 (enc := enc) (C := Try.checked) false ⟨#[], #[.slice none 0 0, .int .u16 0], []⟩ 8 (by kernel_rfl) (by kernel_rfl) (by kernel_rfl) (by kernel_rfl)) ?_
  intro W base args ds gs before hval0 hW hcnd _
  have hval : ∀ (j : Nat) t v, Try.f11.params[j]? = some t → args[j]? = some v → Value.okWide Try.prog W .any base t v := hval0
  have hW' := hW
  obtain ⟨p, q, hA0, hV, rfl, hfz, hnd⟩ := hW
  have hA : DataW.TrodAll enc Try.prog W 0 (fun _ => true) true Try.f11.params.toList args.toList ds p := hA0
  rw [Try.params11] at hA hval
  obtain ⟨v0, vs0, d0, ds0, p0, q0, hargs, rfl, rfl, h0, r0⟩ := trodAll_cons hA
  obtain ⟨v1, vs1, d1, ds1, p1, q1, rfl, rfl, rfl, h1, r1⟩ := trodAll_cons r0
  obtain ⟨rfl, rfl, rfl⟩ := trodAll_nil r1
  obtain rfl : args = #[v0, v1] := by cases args; simp_all
  obtain ⟨rfl, rfl⟩ := trodVars_none hV
  have lt0 : ∀ x ∈ p0, x.block < W.heap.size := by obtain ⟨m, hm⟩ := h0; exact DataW.trod_lt m _ _ _ hm
  have lt1 : ∀ x ∈ p1, x.block < W.heap.size := by obtain ⟨m, hm⟩ := h1; exact DataW.trod_lt m _ _ _ hm
  obtain ⟨a0, len0, cap0, rfl⟩ := okWide_slice Try.underlying22 (hval 0 22 v0 rfl rfl)
  obtain ⟨bs0, hl0, hb0⟩ := isB_of_trod h0
  obtain ⟨n1, rfl, hd1, hp1, wn1⟩ := open_int Try.underlying54 (hval 1 54 v1 rfl rfl) h1
  clear hA0 hval0
  refine (steps_walk W _ bs0 hb0 n1 (bounds_u16 wn1)).mono fun e W' ⟨he, bel⟩ => ?_
  subst he
  exact ⟨_, rfl, _, _, _, [], _, [], hW', trodAll_mk1 (shut_bool Try.underlying4 _), (trodAll_cons_mk (Below.trod laidOut (by kernel_rfl) (of_decide_eq_true (by kernel_rfl)) h0 bel lt0) (trodAll_cons_mk (Below.trod laidOut (by kernel_rfl) (of_decide_eq_true (by kernel_rfl)) h1 bel lt1) trodAll_mk0)), rfl, bel.frame _, fun h => by cases h⟩

theorem octetSteps_holds : Rows.OctetStepsSaid :=
  OpenClaim.holds_of_wide 11 Try.f11 rfl rfl rfl rfl rfl rfl rfl ⟨rfl, rfl, rfl, rfl, rfl⟩ rfl rfl rfl rfl rfl (by kernel_rfl) Try.func11 (by kernel_rfl)
    (of_decide_eq_true (by kernel_rfl)) (by unfold Func.isWrapper; first | (rw [if_pos (by decide +kernel)]; kernel_rfl) | (rw [if_neg (by decide +kernel)]; exact ⟨rfl, rfl⟩))
    (fun os started H enc _ => octetSteps_lifted os started H enc)
#print axioms octetSteps_holds

end Go.Proofs.Ytlcjkmgeaiclbaa
