/- Own: the contract of the reference's product (no statement is proved here). -/
import Derived.Test.YtlkihbmkekadeaaDoorRef
import Derived.Test.YtlkihbmkekadeaaDoorOG1
namespace Go.Proofs.YtlkihbmkekadeaaDoor
open Go.ChangeShapes Go.WideShapes Go.ChangeAt Go.RowKit
set_option maxRecDepth 20000

theorem tbit (n k : Nat) : (((n : Int) / 2 ^ k).tmod 2 == 1) = n.testBit k := by
  have e : (n : Int) / 2 ^ k = ((n / 2 ^ k : Nat) : Int) := by simp
  rw [e, Nat.testBit_eq_decide_div_mod_eq]
  have e2 : ((n / 2 ^ k : Nat) : Int).tmod 2 = ((n / 2 ^ k % 2 : Nat) : Int) := by
    rw [Int.tmod_eq_emod_of_nonneg (Int.natCast_nonneg _)]; simp
  rw [e2]
  rcases Nat.mod_two_eq_zero_or_one (n / 2 ^ k) with h | h <;> rw [h] <;> decide
theorem xor_i64 (a b : Nat) (ha : a < 4294967296) (hb : b < 4294967296) : bits .xor .i64 (a : Int) (b : Int) = ((a ^^^ b : Nat) : Int) := by
  have hx : a ^^^ b < 2 ^ 32 := Nat.xor_lt_two_pow (by omega) (by omega)
  have h1 : (BitVec.ofInt 64 (a : Int)).toNat = a := by
    rw [BitVec.ofInt_natCast, BitVec.toNat_ofNat]; exact Nat.mod_eq_of_lt (by omega)
  have h2 : (BitVec.ofInt 64 (b : Int)).toNat = b := by
    rw [BitVec.ofInt_natCast, BitVec.toNat_ofNat]; exact Nat.mod_eq_of_lt (by omega)
  show IntKind.i64.wrap ((BitVec.ofInt 64 (a : Int) ^^^ BitVec.ofInt 64 (b : Int)).toNat : Int) = _
  rw [BitVec.toNat_xor, h1, h2, IntKind.wrap_i64]
  omega
theorem shl_cast (a k : Nat) (h : a <<< k < 4294967296) : wrap64 ((a : Int) * 2 ^ k) = ((a <<< k : Nat) : Int) := by
  have e : (a : Int) * 2 ^ k = ((a <<< k : Nat) : Int) := by rw [Nat.shiftLeft_eq]; simp
  rw [e]
  generalize a <<< k = z at h ⊢
  simp only [wrap64]; omega
theorem c1_step (a b k : Nat) (ha : a < 256) (hk : k < 8) (h : b.testBit k = true) : bits .xor .i64 ((c1 a b k : Nat) : Int) (wrap64 ((a : Int) * 2 ^ k)) = ((c1 a b (k + 1) : Nat) : Int) := by
  have h1 := c1_lt a b ha k (by omega)
  have h2 : a <<< k < 32768 := by
    rw [Nat.shiftLeft_eq]
    have : 2 ^ k ≤ 2 ^ 7 := Nat.pow_le_pow_right (by decide) (by omega)
    have : a * 2 ^ k ≤ 255 * 2 ^ 7 := Nat.mul_le_mul (by omega) this
    omega
  rw [shl_cast a k (by omega), xor_i64 _ _ (by omega) (by omega), c1, if_pos h]
theorem c1_skip (a b k : Nat) (h : b.testBit k = false) : c1 a b (k + 1) = c1 a b k := by rw [c1, if_neg (by rw [h]; decide)]
theorem rd_step (n j : Nat) (hn : n < 32768) (hj : j < 7) (h : (rd n j).testBit (14 - j) = true) : bits .xor .i64 ((rd n j : Nat) : Int) (wrap64 (283 * 2 ^ (14 - j - 8))) = ((rd n (j + 1) : Nat) : Int) := by
  have h1 := rd_lt n hn j (by omega)
  have e : 14 - j - 8 = 6 - j := by omega
  have h2 : 283 <<< (6 - j) < 32768 := by
    rw [Nat.shiftLeft_eq]
    have : 2 ^ (6 - j) ≤ 2 ^ 6 := Nat.pow_le_pow_right (by decide) (by omega)
    have : 283 * 2 ^ (6 - j) ≤ 283 * 2 ^ 6 := Nat.mul_le_mul (by omega) this
    omega
  rw [e]
  have e2 := shl_cast 283 (6 - j) (by omega)
  rw [show ((283 : Nat) : Int) = 283 from rfl] at e2
  rw [e2, xor_i64 _ _ (by omega) (by omega), rd, if_pos h]
theorem rd_skip (n j : Nat) (h : (rd n j).testBit (14 - j) = false) : rd n (j + 1) = rd n j := by rw [rd, if_neg (by rw [h]; decide)]
set_option maxHeartbeats 1600000 in
theorem ref_times (a b : Nat) (ha : a < 256) (hb : b < 256) (w : World) :
    Calls Tryd.prog 64 #[.int .u8 a, .int .u8 b] w fun e w' => e = .returned (.int .u8 (times a b : Nat)) ∧ w' = w := by
  have hfin : Hid (rd (c1 a b 8) 7 % 256 = times a b) := rt_eq a b ha hb
  go_enter Tryd.func64, Tryd.ntmps64
  go_wp2
  go_loop [5, 6] (fun n i => ∃ k : Nat, k ≤ 8 ∧ i = .int .i64 k ∧ n = .int .i64 (c1 a b k : Nat)) (fun _ i => 8 - (intOf i).toNat)
  case atStart => exact ⟨0, by omega, rfl, rfl⟩
  case round =>
    obtain ⟨k, hk, rfl, rfl⟩ := hrel
    by_cases hlt : k < 8
    · have ht := tbit b k
      cases hbit : b.testBit k
      · rw [hbit] at ht
        have hs := hide (c1_skip a b k hbit)
        clear hbit
        go_wp2
        go_round
        case rel => exact ⟨k + 1, by omega, by go_num, by rw [hs.out]⟩
        case measure => simp [intOf]; omega
      · rw [hbit] at ht
        have hs := hide (c1_step a b k ha hlt hbit)
        clear hbit
        go_wp2
        go_round
        case rel => exact ⟨k + 1, by omega, by go_num, by rw [hs.out]⟩
        case measure => simp [intOf]; omega
    · obtain rfl : k = 8 := by omega
      have hn := c1_lt a b ha 8 (by omega)
      obtain ⟨n, hn1⟩ : ∃ n, n = c1 a b 8 := ⟨_, rfl⟩
      rw [← hn1] at hn hfin ⊢
      clear hn1
      go_wp2
      go_loop [5, 7] (fun m i => ∃ j : Nat, j ≤ 7 ∧ i = .int .i64 (14 - (j : Int)) ∧ m = .int .i64 (rd n j : Nat)) (fun _ i => (intOf i + 1 - 8).toNat)
      case atStart => exact ⟨0, by omega, rfl, rfl⟩
      case round =>
        obtain ⟨j, hj, rfl, rfl⟩ := hrel
        by_cases hlt : j < 7
        · have ht := tbit (rd n j) (14 - j)
          have hj' : (j : Int) < 7 := by omega
          have hlt' := rd_lt n hn j (by omega)
          cases hbit : (rd n j).testBit (14 - j)
          · rw [hbit] at ht
            have hs := hide (rd_skip n j hbit)
            clear hbit
            go_wp2
            go_round
            case rel => exact ⟨j + 1, by omega, by go_num, by rw [hs.out]⟩
            case measure => simp [intOf]; omega
          · rw [hbit] at ht
            have hs := hide (rd_step n j hn hlt hbit)
            clear hbit
            go_wp2
            go_round
            case rel => exact ⟨j + 1, by omega, by go_num, by rw [hs.out]⟩
            case measure => simp [intOf]; omega
        · obtain rfl : j = 7 := by omega
          go_wp2
          go_ret
          refine ⟨ret_int ?_, rfl⟩
          have := hfin.out
          omega
end Go.Proofs.YtlkihbmkekadeaaDoor
