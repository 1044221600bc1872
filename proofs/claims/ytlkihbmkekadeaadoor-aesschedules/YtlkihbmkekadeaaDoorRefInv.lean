/- Own: the contract of the reference's Inverse (no statement is proved here). -/
import Derived.Test.YtlkihbmkekadeaaDoorOG2
import Derived.Test.YtlkihbmkekadeaaDoorRefTimes
namespace Go.Proofs.YtlkihbmkekadeaaDoor
open Go.ChangeShapes Go.WideShapes Go.ChangeAt Go.RowKit
set_option maxRecDepth 20000

set_option maxRecDepth 100000 in
set_option maxHeartbeats 1600000 in
theorem ref_inverse_core (a : Int) (T : Nat → Nat) (r : Nat) (w : World)
    (h : Hid ((r = 0 ∧ ∀ i, 1 ≤ i → i < 256 → T i ≠ 1) ∨ (1 ≤ r ∧ r < 256 ∧ T r = 1 ∧ ∀ i, 1 ≤ i → i < 256 → T i = 1 → i = r)))
    (cT : Hid (∀ (k : Nat) w, k < 256 → Calls Tryd.prog 64 #[.int .u8 a, .int .u8 (k : Nat)] w fun e w' => e = .returned (.int .u8 (T k : Nat)) ∧ w' = w)) :
    Calls Tryd.prog 78 #[.int .u8 a] w fun e w' => e = .returned (.int .u8 (r : Nat)) ∧ w' = w := by
  go_enter Tryd.func78, Tryd.ntmps78
  go_wp2
  go_loop [3] (fun i => ∃ k : Nat, 1 ≤ k ∧ k ≤ 256 ∧ (r = 0 ∨ k ≤ r) ∧ i = .int .i64 k) (fun i => 256 - (intOf i).toNat)
  case atStart =>
    refine ⟨1, by omega, by omega, ?_, rfl⟩
    rcases h.out with h | h
    · exact .inl h.1
    · exact .inr h.1
  case round =>
    obtain ⟨k, h1, hk, hr, rfl⟩ := hrel
    by_cases hlt : k < 256
    · have HR := hide hr
      have HC := hide (fun w => cT.out k w hlt)
      obtain ⟨q, hq⟩ : ∃ q, q = T k := ⟨_, rfl⟩
      rw [← hq] at HC
      have HQ := hide hq
      have HW : Hid (IntKind.u8.wrap (k : Int) = k) := by show _ = _; rw [IntKind.wrap_u8]; omega
      clear hr hq
      by_cases hq1 : q = 1
      · have hkr : k = r := by
          rcases h.out with h | h
          · exact absurd (HQ.out.symm.trans hq1) (h.2 k h1 hlt)
          · exact h.2.2.2 k h1 hlt (HQ.out.symm.trans hq1)
        have HK := hide hkr
        clear hkr
        subst hq1
        go_wp2_with fail
        try rw [HW.out]
        refine (HC.out _).mono ?_
        rintro e w' ⟨rfl, rfl⟩
        go_wp2
        try rw [HW.out]
        go_ret
        refine ⟨?_, rfl⟩
        rw [← HK.out]
        rfl
      · have hq2 : ((q : Int) == 1) = false := by rw [beq_eq_false_iff_ne]; omega
        have HQ1 := hide hq1
        clear hq1
        go_wp2_with fail
        try rw [HW.out]
        refine (HC.out _).mono ?_
        rintro e w' ⟨rfl, rfl⟩
        go_wp2
        go_round
        case rel =>
          refine ⟨k + 1, by omega, by omega, ?_, by go_num⟩
          rcases h.out with h | h
          · exact .inl h.1
          · rcases HR.out with h0 | h0
            · exact .inl h0
            · refine .inr ?_
              have : k ≠ r := fun e => HQ1.out (by rw [HQ.out, e]; exact h.2.2.1)
              omega
        case measure => simp [intOf]; omega
    · obtain rfl : k = 256 := by omega
      have hr0 : r = 0 := by
        rcases hr with h0 | h0
        · exact h0
        · rcases h.out with h | h
          · exact h.1
          · omega
      clear hr
      subst hr0
      go_wp2
      go_ret
      exact ⟨rfl, rfl⟩
theorem ref_inverse (a : Nat) (ha : a < 256) (w : World) : Calls Tryd.prog 78 #[.int .u8 a] w fun e w' => e = .returned (.int .u8 (inv a : Nat)) ∧ w' = w := by
  refine ref_inverse_core a (fun k => times a k) (inv a) w ?_ (hide fun k w hk => ref_times a k ha hk w)
  by_cases h0 : a = 0
  · subst h0
    refine .inl ⟨inv_zero, fun i _ _ => ?_⟩
    rw [zero_times]; decide
  · refine .inr ⟨?_, inv_lt a ha, times_inv a ha h0, fun i _ hi h => inv_unique a i ha hi h⟩
    have h := times_inv a ha h0
    rcases Nat.eq_zero_or_pos (inv a) with e | e
    · rw [e, times_zero] at h; cases h
    · exact e
end Go.Proofs.YtlkihbmkekadeaaDoor
