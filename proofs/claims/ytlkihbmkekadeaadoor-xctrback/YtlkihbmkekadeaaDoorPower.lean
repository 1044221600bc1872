/- Own: the contracts of Power and Inverse of layer 2 (no statement is proved here). -/
import Derived.Test.YtlkihbmkekadeaaDoorDouble
import Derived.Test.YtlkihbmkekadeaaDoorField
namespace Go.Proofs.YtlkihbmkekadeaaDoor
open Go.ChangeShapes Go.WideShapes Go.ChangeAt Go.RowKit
set_option maxRecDepth 20000

theorem odd_i64 (n : Nat) (hn : n < 9223372036854775808) : (bits .and .i64 (n : Int) 1 != 0) = decide (n % 2 = 1) := by
  have e := (bits_nat .i64 63 (by decide) (fun m h h' => by rw [IntKind.wrap_i64]; omega) n 1 hn (by decide)).1
  rw [show (1 : Int) = ((1 : Nat) : Int) from rfl, e, Nat.and_one_is_mod]
  rcases Nat.mod_two_eq_zero_or_one n with h | h <;> rw [h] <;> decide
theorem pl_pass (n x y s T : Nat) (_hx : x < 256) (hs : s < 256) (hy : y < 2 ^ (n + 1)) (ht : pl (n + 1) x y s = T) :
    (y / 2 = 0 → (if y % 2 = 1 then times s x else s) = T) ∧ (y / 2 ≠ 0 → ∃ m, y / 2 < 2 ^ (m + 1) ∧ pl (m + 1) (times x x) (y / 2) (if y % 2 = 1 then times s x else s) = T) ∧ (if y % 2 = 1 then times s x else s) < 256 := by
  rw [pl] at ht
  refine ⟨fun h => ?_, fun h => ?_, ?_⟩
  · rw [h, pl_zero] at ht; exact ht
  · cases n with
    | zero => simp at hy; omega
    | succ m => exact ⟨m, by rw [Nat.pow_succ] at hy; omega, ht⟩
  · split
    · exact times_lt _ _ hs
    · exact hs
theorem power_neg (a n : Int) (hn : n < 0) (w : World) :
    Calls Tryd.prog 73 #[.int .u8 a, .int .i64 n] w fun e w' => e = .returned (.int .u8 0) ∧ w' = w := by
  go_enter Tryd.func73, Tryd.ntmps73
  go_wp2
  go_step3
  go_wp2
  rw [Exit.noGoto_ret]
  go_ret
  exact ⟨rfl, rfl⟩
set_option maxHeartbeats 1600000 in
set_option maxRecDepth 1000000 in
theorem power_pos (a n : Nat) (ha : a < 256) (hn : n < 9223372036854775808) (w : World) :
    Calls Tryd.prog 73 #[.int .u8 a, .int .i64 n] w fun e w' => e = .returned (.int .u8 (pow a n : Nat)) ∧ w' = w := by
  have h0 : ¬ ((n : Int) < 0) := by omega
  go_enter Tryd.func73, Tryd.ntmps73
  go_wp2
  refine wp_scope_jumps 0 (fun a' w' => w' = w ∧ ∃ (k x y s : Nat) (u6 u7 u8 u9 u10 u11 u12 u13 u14 u15 u16 u17 u18 u19 u20 u21 : Value), a' = { tmps := #[.int .u8 x, .int .i64 y, undef, undef, .int .u8 0, .int .u8 s, u6, u7, u8, u9, u10, u11, u12, u13, u14, u15, u16, u17, u18, u19, u20, u21], defers := [] } ∧ x < 256 ∧ y < 9223372036854775808 ∧ s < 256 ∧ y < 2 ^ (k + 1) ∧ pl (k + 1) x y s = pow a n) (fun a' _ => (intOf (a'.tmps.getD 1 undef)).toNat) rfl ?_ ?_
  · have hp := pl_pass 62 a n 1 (pow a n) ha (by decide) hn rfl
    have hm : (bits .and .i64 (n : Int) 1 != 0) = decide (n % 2 = 1) := odd_i64 n hn
    have HY := hide hn
    clear hn
    by_cases ho : n % 2 = 1
    · have hm' : (bits .and .i64 (n : Int) 1 != 0) = true := by rw [hm]; simpa using ho
      clear hm
      rw [if_pos ho] at hp
      have HP := hide hp
      clear hp
      have k1 : ∀ w, Calls Tryd.prog 63 #[.int .u8 1, .int .u8 a] w fun e w' => e = .returned (.int .u8 (times 1 a : Nat)) ∧ w' = w := fun w => times_any 1 a (by decide) ha w
      have K1 := hide k1
      clear k1
      by_cases hz : n / 2 = 0
      · have hz' : ((n : Int) / 2 != 0) = false := by simp; omega
        go_wp2
        go_step3
        go_wp2_with fail
        refine (K1.out _).mono ?_
        rintro e w' ⟨rfl, rfl⟩
        go_wp2_with fail
        refine (times_any a a ha ha _).mono ?_
        rintro e w' ⟨rfl, rfl⟩
        go_wp2
        simp only [Exit.jump]
        go_ret
        refine ⟨ret_int ?_, rfl⟩
        have := HP.out.1 hz; omega
      · have hz' : ((n : Int) / 2 != 0) = true := by rw [bne_iff_ne]; omega
        obtain ⟨m, hm1, hm2⟩ := HP.out.2.1 hz
        have HM := hide hm2
        clear hm2
        go_wp2
        go_step3
        go_wp2_with fail
        refine (K1.out _).mono ?_
        rintro e w' ⟨rfl, rfl⟩
        go_wp2_with fail
        refine (times_any a a ha ha _).mono ?_
        rintro e w' ⟨rfl, rfl⟩
        go_wp2
        go_step3
        first | exact ⟨rfl, rfl, m, times a a, n / 2, times 1 a, _, _, _, _, _, _, _, _, _, _, _, _, _, _, _, _, rfl, times_lt _ _ ha, by have := HY.out; omega, HP.out.2.2, hm1, HM.out⟩ | exact ⟨rfl, rfl, m, times a a, n / 2, times 1 a, ⟨_, _, _, _, _, _, _, _, _, _, _, _, _, _, _, _, rfl⟩, times_lt _ _ ha, by have := HY.out; omega, HP.out.2.2, hm1, HM.out⟩
    · have hm' : (bits .and .i64 (n : Int) 1 != 0) = false := by rw [hm]; simpa using ho
      clear hm
      rw [if_neg ho] at hp
      have HP := hide hp
      clear hp
      by_cases hz : n / 2 = 0
      · have hz' : ((n : Int) / 2 != 0) = false := by simp; omega
        go_wp2
        go_step3
        go_wp2_with fail
        refine (times_any a a ha ha _).mono ?_
        rintro e w' ⟨rfl, rfl⟩
        go_wp2
        simp only [Exit.jump]
        go_ret
        refine ⟨ret_int ?_, rfl⟩
        have := HP.out.1 hz; omega
      · have hz' : ((n : Int) / 2 != 0) = true := by rw [bne_iff_ne]; omega
        obtain ⟨m, hm1, hm2⟩ := HP.out.2.1 hz
        have HM := hide hm2
        clear hm2
        go_wp2
        go_step3
        go_wp2_with fail
        refine (times_any a a ha ha _).mono ?_
        rintro e w' ⟨rfl, rfl⟩
        go_wp2
        go_step3
        first | exact ⟨rfl, rfl, m, times a a, n / 2, 1, _, _, _, _, _, _, _, _, _, _, _, _, _, _, _, _, rfl, times_lt _ _ ha, by have := HY.out; omega, HP.out.2.2, hm1, HM.out⟩ | exact ⟨rfl, rfl, m, times a a, n / 2, 1, ⟨_, _, _, _, _, _, _, _, _, _, _, _, _, _, _, _, rfl⟩, times_lt _ _ ha, by have := HY.out; omega, HP.out.2.2, hm1, HM.out⟩
  · rintro a' w' ⟨rfl, k, x, y, s, u6, u7, u8, u9, u10, u11, u12, u13, u14, u15, u16, u17, u18, u19, u20, u21, rfl, hx, hy, hs, hk, ht⟩
    have hp := pl_pass k x y s (pow a n) hx hs hk ht
    clear ht
    have hm : (bits .and .i64 (y : Int) 1 != 0) = decide (y % 2 = 1) := odd_i64 y hy
    have HY := hide hy
    clear hy
    by_cases ho : y % 2 = 1
    · have hm' : (bits .and .i64 (y : Int) 1 != 0) = true := by rw [hm]; simpa using ho
      clear hm
      rw [if_pos ho] at hp
      have HP := hide hp
      clear hp
      have k1 : ∀ w, Calls Tryd.prog 63 #[.int .u8 (s : Int), .int .u8 x] w fun e w' => e = .returned (.int .u8 (times s x : Nat)) ∧ w' = w := fun w => times_any s x hs hx w
      have K1 := hide k1
      clear k1
      by_cases hz : y / 2 = 0
      · have hz' : ((y : Int) / 2 != 0) = false := by simp; omega
        go_wp2_with fail
        refine (K1.out _).mono ?_
        rintro e w' ⟨rfl, rfl⟩
        go_wp2_with fail
        refine (times_any x x hx hx _).mono ?_
        rintro e w' ⟨rfl, rfl⟩
        go_wp2
        simp only [Exit.jump]
        go_ret
        refine ⟨ret_int ?_, rfl⟩
        have := HP.out.1 hz; omega
      · have hz' : ((y : Int) / 2 != 0) = true := by rw [bne_iff_ne]; omega
        obtain ⟨m, hm1, hm2⟩ := HP.out.2.1 hz
        have HM := hide hm2
        clear hm2
        go_wp2_with fail
        refine (K1.out _).mono ?_
        rintro e w' ⟨rfl, rfl⟩
        go_wp2_with fail
        refine (times_any x x hx hx _).mono ?_
        rintro e w' ⟨rfl, rfl⟩
        go_wp2
        go_step3
        refine ⟨rfl, ?_, ?_⟩
        · first | exact ⟨rfl, m, times x x, y / 2, times s x, _, _, _, _, _, _, _, _, _, _, _, _, _, _, _, _, rfl, times_lt _ _ hx, by have := HY.out; omega, HP.out.2.2, hm1, HM.out⟩ | exact ⟨rfl, m, times x x, y / 2, times s x, ⟨_, _, _, _, _, _, _, _, _, _, _, _, _, _, _, _, rfl⟩, times_lt _ _ hx, by have := HY.out; omega, HP.out.2.2, hm1, HM.out⟩
        · simp [intOf]; omega
    · have hm' : (bits .and .i64 (y : Int) 1 != 0) = false := by rw [hm]; simpa using ho
      clear hm
      rw [if_neg ho] at hp
      have HP := hide hp
      clear hp
      by_cases hz : y / 2 = 0
      · have hz' : ((y : Int) / 2 != 0) = false := by simp; omega
        go_wp2_with fail
        refine (times_any x x hx hx _).mono ?_
        rintro e w' ⟨rfl, rfl⟩
        go_wp2
        simp only [Exit.jump]
        go_ret
        refine ⟨ret_int ?_, rfl⟩
        have := HP.out.1 hz; omega
      · have hz' : ((y : Int) / 2 != 0) = true := by rw [bne_iff_ne]; omega
        obtain ⟨m, hm1, hm2⟩ := HP.out.2.1 hz
        have HM := hide hm2
        clear hm2
        go_wp2_with fail
        refine (times_any x x hx hx _).mono ?_
        rintro e w' ⟨rfl, rfl⟩
        go_wp2
        go_step3
        refine ⟨rfl, ?_, ?_⟩
        · first | exact ⟨rfl, m, times x x, y / 2, s, _, _, _, _, _, _, _, _, _, _, _, _, _, _, _, _, rfl, times_lt _ _ hx, by have := HY.out; omega, HP.out.2.2, hm1, HM.out⟩ | exact ⟨rfl, m, times x x, y / 2, s, ⟨_, _, _, _, _, _, _, _, _, _, _, _, _, _, _, _, rfl⟩, times_lt _ _ hx, by have := HY.out; omega, HP.out.2.2, hm1, HM.out⟩
        · simp [intOf]; omega
theorem power_any (a n : Nat) (ha : a < 256) (hn : n < 9223372036854775808) (w : World) :
    Calls Tryd.prog 73 #[.int .u8 a, .int .i64 n] w fun e w' => e = .returned (.int .u8 (pw a n : Nat)) ∧ w' = w := by
  rw [← pow_eq a n ha hn]; exact power_pos a n ha hn w
theorem inverse_any (a : Nat) (ha : a < 256) (w : World) :
    Calls Tryd.prog 62 #[.int .u8 a] w fun e w' => e = .returned (.int .u8 (inv a : Nat)) ∧ w' = w := by
  have k : ∀ w, Calls Tryd.prog 73 #[.int .u8 a, .int .i64 254] w fun e w' => e = .returned (.int .u8 (inv a : Nat)) ∧ w' = w := fun w => by
    rw [inv_eq a ha]; exact power_any a 254 ha (by decide) w
  have K := hide k
  clear k
  go_enter Tryd.func62, Tryd.ntmps62
  go_wp2_with fail
  refine (K.out _).mono ?_
  rintro e w' ⟨rfl, rfl⟩
  go_wp2
  go_ret
  exact ⟨rfl, rfl⟩
end Go.Proofs.YtlkihbmkekadeaaDoor
