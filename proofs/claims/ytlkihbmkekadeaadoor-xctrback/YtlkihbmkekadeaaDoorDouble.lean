/- Own: the contracts of Double and Times of layer 2 (no statement is proved here). -/
import Derived.Test.YtlkihbmkekadeaaDoorMath
import Derived.Test.YtlkihbmkekadeaaDoorBase
import Derived.WalkKit
import Derived.ProofKit
import Derived.OpenShut
import Derived.Below
import Derived.Outline
import Derived.WalkLawsBesides
import Derived.WalkSpells
import Derived.WalkMore
import Derived.ScopeJumps
namespace Go.Proofs.YtlkihbmkekadeaaDoor
open Go.ChangeShapes Go.WideShapes Go.ChangeAt Go.RowKit
set_option maxRecDepth 20000

theorem xor_u8 (a b : Nat) (ha : a < 256) (hb : b < 256) : bits .xor .u8 (a : Int) (b : Int) = ((a ^^^ b : Nat) : Int) := by
  have hx : a ^^^ b < 2 ^ 8 := Nat.xor_lt_two_pow (by omega) (by omega)
  have h1 : (BitVec.ofInt 8 (a : Int)).toNat = a := by
    rw [BitVec.ofInt_natCast, BitVec.toNat_ofNat]; exact Nat.mod_eq_of_lt (by omega)
  have h2 : (BitVec.ofInt 8 (b : Int)).toNat = b := by
    rw [BitVec.ofInt_natCast, BitVec.toNat_ofNat]; exact Nat.mod_eq_of_lt (by omega)
  show IntKind.u8.wrap ((BitVec.ofInt 8 (a : Int) ^^^ BitVec.ofInt 8 (b : Int)).toNat : Int) = _
  rw [BitVec.toNat_xor, h1, h2, IntKind.wrap_u8]
  omega
theorem and_u8 (a b : Nat) (ha : a < 256) (hb : b < 256) : bits .and .u8 (a : Int) (b : Int) = ((a &&& b : Nat) : Int) := (bits_nat .u8 8 (by decide) wraps_u8 _ _ ha hb).1

theorem double_hi (a : Nat) (_ha : a < 256) (h : (bits .and .u8 (a : Int) 128 != 0) = true) (w : World) :
    Calls Tryd.prog 77 #[.int .u8 a] w fun e w' => e = .returned (.int .u8 (bits .xor .u8 ((a : Int) * 2 % 256) 27)) ∧ w' = w := by
  go_enter Tryd.func77, Tryd.ntmps77
  go_wp2
  go_ret
  exact ⟨rfl, rfl⟩
theorem double_lo (a : Nat) (_ha : a < 256) (h : (bits .and .u8 (a : Int) 128 != 0) = false) (w : World) :
    Calls Tryd.prog 77 #[.int .u8 a] w fun e w' => e = .returned (.int .u8 ((a : Int) * 2 % 256)) ∧ w' = w := by
  go_enter Tryd.func77, Tryd.ntmps77
  go_wp2
  go_ret
  exact ⟨rfl, rfl⟩
theorem and_128 : ∀ a, a < 256 → (a &&& 128 = if a.testBit 7 then 128 else 0) := by decide +kernel
theorem double_any (a : Nat) (ha : a < 256) (w : World) :
    Calls Tryd.prog 77 #[.int .u8 a] w fun e w' => e = .returned (.int .u8 (dbl a : Nat)) ∧ w' = w := by
  have e1 := and_u8 a 128 ha (by decide)
  have e2 := and_128 a ha
  have e3 : ((a : Int) * 2 % 256) = ((2 * a % 256 : Nat) : Int) := by omega
  unfold dbl
  by_cases h : a.testBit 7 = true
  · rw [if_pos h] at e2 ⊢
    have e4 := xor_u8 (2 * a % 256) 27 (Nat.mod_lt _ (by decide)) (by decide)
    rw [← e4, ← e3]
    exact double_hi a ha (by rw [show (128 : Int) = ((128 : Nat) : Int) from rfl, e1, e2]; decide) w
  · rw [if_neg h] at e2 ⊢
    rw [← e3]
    exact double_lo a ha (by rw [show (128 : Int) = ((128 : Nat) : Int) from rfl, e1, e2]; decide) w

theorem and_one : ∀ b, b < 256 → (b &&& 1 = b % 2) := by decide +kernel
theorem odd_u8 (b : Nat) (hb : b < 256) : (bits .and .u8 (b : Int) 1 != 0) = decide (b % 2 = 1) := by
  have e1 := and_u8 b 1 hb (by decide)
  rw [show (1 : Int) = ((1 : Nat) : Int) from rfl, e1, and_one b hb]
  rcases Nat.mod_two_eq_zero_or_one b with h | h <;> rw [h] <;> decide

theorem tl_pass (n x y s T : Nat) (hx : x < 256) (hs : s < 256) (hy : y < 2 ^ (n + 1)) (ht : tl (n + 1) x y s = T) :
    (y / 2 = 0 → (if y % 2 = 1 then s ^^^ x else s) = T) ∧ (y / 2 ≠ 0 → ∃ m, y / 2 < 2 ^ (m + 1) ∧ tl (m + 1) (dbl x) (y / 2) (if y % 2 = 1 then s ^^^ x else s) = T) ∧ (if y % 2 = 1 then s ^^^ x else s) < 256 := by
  rw [tl] at ht
  refine ⟨fun h => ?_, fun h => ?_, ?_⟩
  · rw [h, tl_zero] at ht; exact ht
  · cases n with
    | zero => simp at hy; omega
    | succ m => exact ⟨m, by rw [Nat.pow_succ] at hy; omega, ht⟩
  · split
    · exact xor_lt _ _ hs hx
    · exact hs
set_option maxHeartbeats 1600000 in
set_option maxRecDepth 1000000 in
theorem times_any (a b : Nat) (ha : a < 256) (hb : b < 256) (w : World) :
    Calls Tryd.prog 63 #[.int .u8 a, .int .u8 b] w fun e w' => e = .returned (.int .u8 (times a b : Nat)) ∧ w' = w := by
  go_enter Tryd.func63, Tryd.ntmps63
  go_wp2
  refine wp_scope_jumps 0 (fun a' w' => w' = w ∧ ∃ (n x y s : Nat) (u6 u7 u8 u9 u10 u11 u12 u13 u14 u15 u16 u17 u18 : Value), a' = { tmps := #[.int .u8 x, .int .u8 y, undef, undef, .int .u8 0, .int .u8 s, u6, u7, u8, u9, u10, u11, u12, u13, u14, u15, u16, u17, u18], defers := [] } ∧ x < 256 ∧ y < 256 ∧ s < 256 ∧ y < 2 ^ (n + 1) ∧ tl (n + 1) x y s = times a b) (fun a' _ => (intOf (a'.tmps.getD 1 undef)).toNat) rfl ?_ ?_
  · have hp := tl_pass 7 a b 0 (times a b) ha (by decide) hb rfl
    have hm : (bits .and .u8 (b : Int) 1 != 0) = decide (b % 2 = 1) := odd_u8 b hb
    by_cases ho : b % 2 = 1
    · have hm' : (bits .and .u8 (b : Int) 1 != 0) = true := by rw [hm]; simpa using ho
      have hxr : Hid (bits .xor .u8 0 (a : Int) = ((0 ^^^ a : Nat) : Int)) := xor_u8 0 a (by decide) ha
      clear hm
      rw [if_pos ho] at hp
      have HP := hide hp
      clear hp
      by_cases hz : b / 2 = 0
      · have hz' : ((b : Int) / 2 != 0) = false := by simp; omega
        go_wp2
        go_step3
        go_wp2_with (go_at_call 77; refine (double_any _ ha _).mono ?_; rintro e w' ⟨rfl, rfl⟩)
        simp only [Exit.jump]
        go_ret
        refine ⟨ret_int ?_, rfl⟩
        rw [← HP.out.1 hz]; exact hxr.out
      · have hz' : ((b : Int) / 2 != 0) = true := by rw [bne_iff_ne]; omega
        obtain ⟨m, hm1, hm2⟩ := HP.out.2.1 hz
        have HM := hide hm2
        clear hm2
        go_wp2
        go_step3
        go_wp2_with (go_at_call 77; refine (double_any _ ha _).mono ?_; rintro e w' ⟨rfl, rfl⟩)
        go_step3
        rw [hxr.out]
        first | exact ⟨rfl, rfl, m, dbl a, b / 2, 0 ^^^ a, _, _, _, _, _, _, _, _, _, _, _, _, _, rfl, dbl_lt a, by omega, HP.out.2.2, hm1, HM.out⟩ | exact ⟨rfl, rfl, m, dbl a, b / 2, 0 ^^^ a, ⟨_, _, _, _, _, _, _, _, _, _, _, _, _, rfl⟩, dbl_lt a, by omega, HP.out.2.2, hm1, HM.out⟩
    · have hm' : (bits .and .u8 (b : Int) 1 != 0) = false := by rw [hm]; simpa using ho
      clear hm
      rw [if_neg ho] at hp
      have HP := hide hp
      clear hp
      by_cases hz : b / 2 = 0
      · have hz' : ((b : Int) / 2 != 0) = false := by simp; omega
        go_wp2
        go_step3
        go_wp2_with (go_at_call 77; refine (double_any _ ha _).mono ?_; rintro e w' ⟨rfl, rfl⟩)
        simp only [Exit.jump]
        go_ret
        refine ⟨ret_int ?_, rfl⟩
        have := HP.out.1 hz; omega
      · have hz' : ((b : Int) / 2 != 0) = true := by rw [bne_iff_ne]; omega
        obtain ⟨m, hm1, hm2⟩ := HP.out.2.1 hz
        have HM := hide hm2
        clear hm2
        go_wp2
        go_step3
        go_wp2_with (go_at_call 77; refine (double_any _ ha _).mono ?_; rintro e w' ⟨rfl, rfl⟩)
        go_step3
        first | exact ⟨rfl, rfl, m, dbl a, b / 2, 0, _, _, _, _, _, _, _, _, _, _, _, _, _, rfl, dbl_lt a, by omega, HP.out.2.2, hm1, HM.out⟩ | exact ⟨rfl, rfl, m, dbl a, b / 2, 0, ⟨_, _, _, _, _, _, _, _, _, _, _, _, _, rfl⟩, dbl_lt a, by omega, HP.out.2.2, hm1, HM.out⟩
  · rintro a' w' ⟨rfl, n, x, y, s, u6, u7, u8, u9, u10, u11, u12, u13, u14, u15, u16, u17, u18, rfl, hx, hy, hs, hn, ht⟩
    have hp := tl_pass n x y s (times a b) hx hs hn ht
    clear ht
    have hm : (bits .and .u8 (y : Int) 1 != 0) = decide (y % 2 = 1) := odd_u8 y hy
    by_cases ho : y % 2 = 1
    · have hm' : (bits .and .u8 (y : Int) 1 != 0) = true := by rw [hm]; simpa using ho
      have hxr : Hid (bits .xor .u8 (s : Int) (x : Int) = ((s ^^^ x : Nat) : Int)) := xor_u8 s x hs hx
      clear hm
      rw [if_pos ho] at hp
      have HP := hide hp
      clear hp
      by_cases hz : y / 2 = 0
      · have hz' : ((y : Int) / 2 != 0) = false := by simp; omega
        go_wp2_with (go_at_call 77; refine (double_any _ hx _).mono ?_; rintro e w' ⟨rfl, rfl⟩)
        simp only [Exit.jump]
        go_ret
        refine ⟨ret_int ?_, rfl⟩
        rw [← HP.out.1 hz]; exact hxr.out
      · have hz' : ((y : Int) / 2 != 0) = true := by rw [bne_iff_ne]; omega
        obtain ⟨m, hm1, hm2⟩ := HP.out.2.1 hz
        have HM := hide hm2
        clear hm2
        go_wp2_with (go_at_call 77; refine (double_any _ hx _).mono ?_; rintro e w' ⟨rfl, rfl⟩)
        go_step3
        rw [hxr.out]
        refine ⟨rfl, ?_, ?_⟩
        · first | exact ⟨rfl, m, dbl x, y / 2, s ^^^ x, _, _, _, _, _, _, _, _, _, _, _, _, _, rfl, dbl_lt x, by omega, HP.out.2.2, hm1, HM.out⟩ | exact ⟨rfl, m, dbl x, y / 2, s ^^^ x, ⟨_, _, _, _, _, _, _, _, _, _, _, _, _, rfl⟩, dbl_lt x, by omega, HP.out.2.2, hm1, HM.out⟩
        · simp [intOf]; omega
    · have hm' : (bits .and .u8 (y : Int) 1 != 0) = false := by rw [hm]; simpa using ho
      clear hm
      rw [if_neg ho] at hp
      have HP := hide hp
      clear hp
      by_cases hz : y / 2 = 0
      · have hz' : ((y : Int) / 2 != 0) = false := by simp; omega
        go_wp2_with (go_at_call 77; refine (double_any _ hx _).mono ?_; rintro e w' ⟨rfl, rfl⟩)
        simp only [Exit.jump]
        go_ret
        refine ⟨ret_int ?_, rfl⟩
        have := HP.out.1 hz; omega
      · have hz' : ((y : Int) / 2 != 0) = true := by rw [bne_iff_ne]; omega
        obtain ⟨m, hm1, hm2⟩ := HP.out.2.1 hz
        have HM := hide hm2
        clear hm2
        go_wp2_with (go_at_call 77; refine (double_any _ hx _).mono ?_; rintro e w' ⟨rfl, rfl⟩)
        go_step3
        refine ⟨rfl, ?_, ?_⟩
        · first | exact ⟨rfl, m, dbl x, y / 2, s, _, _, _, _, _, _, _, _, _, _, _, _, _, rfl, dbl_lt x, by omega, HP.out.2.2, hm1, HM.out⟩ | exact ⟨rfl, m, dbl x, y / 2, s, ⟨_, _, _, _, _, _, _, _, _, _, _, _, _, rfl⟩, dbl_lt x, by omega, HP.out.2.2, hm1, HM.out⟩
        · simp [intOf]; omega
end Go.Proofs.YtlkihbmkekadeaaDoor
