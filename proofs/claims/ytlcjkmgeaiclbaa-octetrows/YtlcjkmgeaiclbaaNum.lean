/- Own: the contracts of the reference's At and Number of layer 1 (no statement is proved here). -/
import Derived.Test.YtlcjkmgeaiclbaaLoad
namespace Go.Proofs.Ytlcjkmgeaiclbaa
open Go.ChangeShapes Go.WideShapes Go.ChangeAt Go.RowKit

theorem at_below (a : Option Addr) (n c : Nat) (at' k : Int) (w : World) (hk : 0 ≤ k) (hk' : k ≤ 100) (hlo : at' < -k) :
    Calls Try.prog 36 #[.slice a n c, .int .i64 at', .int .i64 k] w fun e w' => e = .returned (.int .u8 0) ∧ w' = w := by
  go_enter Try.func36, Try.ntmps36
  go_wp2
  go_ret
  exact ⟨rfl, rfl⟩
theorem at_far (a : Option Addr) (n c : Nat) (at' k : Int) (w : World) (hk : 0 ≤ k) (hk' : k ≤ 100) (hlo : decide (at' < -k) = false) (hhi : (n : Int) ≤ at') :
    Calls Try.prog 36 #[.slice a n c, .int .i64 at', .int .i64 k] w fun e w' => e = .returned (.int .u8 0) ∧ w' = w := by
  go_enter Try.func36, Try.ntmps36
  go_wp2
  go_ret
  exact ⟨rfl, rfl⟩
theorem at_behind (a : Option Addr) (n c : Nat) (at' k : Int) (w : World) (hk : 0 ≤ k) (hk' : k ≤ 100) (hn : n ≤ 1099511627776) (hg : -k ≤ at') (hlo : decide (at' < -k) = false) (hhi : decide ((n : Int) ≤ at') = false) (_hgt : at' < n) (h3 : (n : Int) ≤ at' + k) :
    Calls Try.prog 36 #[.slice a n c, .int .i64 at', .int .i64 k] w fun e w' => e = .returned (.int .u8 0) ∧ w' = w := by
  go_enter Try.func36, Try.ntmps36
  go_wp2
  go_ret
  exact ⟨rfl, rfl⟩
theorem at_in (b off n c : Nat) (at' k x : Int) (w : World) (hk : 0 ≤ k) (hk' : k ≤ 100) (hn : n ≤ 1099511627776) (hg : -k ≤ at') (hlo : decide (at' < -k) = false) (hhi : decide ((n : Int) ≤ at') = false) (_hgt : at' < n) (h3 : decide ((n : Int) ≤ at' + k) = false) (h4 : at' + k < n) (h5 : 0 ≤ at' + k)
    (hx : w.cell? ⟨b, off + (at' + k).toNat, none⟩ = some (.int .u8 x)) :
    Calls Try.prog 36 #[.slice (some ⟨b, off, none⟩) n c, .int .i64 at', .int .i64 k] w fun e w' => e = .returned (.int .u8 x) ∧ w' = w := by
  go_enter Try.func36, Try.ntmps36
  go_wp2
  go_ret
  exact ⟨rfl, rfl⟩
theorem at_any (v : Value) (bs : List UInt8) (at' k : Int) (w : World) (hv : IsB w v bs) (hn : bs.length ≤ 1099511627776) (hk : 0 ≤ k) (hk' : k ≤ 100) :
    Calls Try.prog 36 #[v, .int .i64 at', .int .i64 k] w fun e w' => e = .returned (.int .u8 (byteAt bs (at' + k) : Nat)) ∧ w' = w := by
  obtain ⟨_, a, c, rfl, hr⟩ := hv
  by_cases h1 : at' < -k
  · rw [byteAt_out bs _ (by omega)]
    exact at_below a _ c at' k w hk hk' h1
  by_cases h2 : (bs.length : Int) ≤ at'
  · rw [byteAt_out bs _ (by omega)]
    exact at_far a _ c at' k w hk hk' (by simpa using h1) h2
  by_cases h3 : (bs.length : Int) ≤ at' + k
  · rw [byteAt_out bs _ (by omega)]
    exact at_behind a _ c at' k w hk hk' hn (by omega) (by simpa using h1) (by simpa using h2) (by omega) h3
  rcases hr with hr | ⟨b, off, rfl, hc⟩
  · omega
  · rw [byteAt_in bs _ (by omega) (by omega)]
    exact at_in b off _ c at' k _ w hk hk' hn (by omega) (by simpa using h1) (by simpa using h2) (by omega) (by simpa using h3) (by omega) (by omega) (hc _ (by omega))

theorem num_front (bs : List UInt8) (a : Int) : ∀ m, num bs a (m + 1) = byteAt bs a + 256 * num bs (a + 1) m
  | 0 => by simp [num]
  | m + 1 => by
    rw [num, num_front bs a m, num]
    have e : a + ((m + 1 : Nat) : Int) = a + 1 + (m : Int) := by omega
    have e2 : 2 ^ (8 * (m + 1)) = 256 * 2 ^ (8 * m) := by rw [Nat.mul_add, Nat.pow_add, Nat.mul_comm]
    rw [e, e2, Nat.mul_add, Nat.add_assoc, Nat.mul_left_comm 256]
set_option maxHeartbeats 1600000 in
theorem number_any (v : Value) (bs : List UInt8) (at' : Int) (many : Nat) (w : World) (hv : IsB w v bs) (hn : bs.length ≤ 1099511627776) (hm : many ≤ 8) :
    Calls Try.prog 15 #[v, .int .i64 at', .int .i64 many] w fun e w' => e = .returned (.int .u64 (num bs at' many : Nat)) ∧ w' = w := by
  have cAt : Hid (∀ k : Nat, k < 8 → Calls Try.prog 36 #[v, .int .i64 at', .int .i64 k] w fun e w' => e = .returned (.int .u8 (byteAt bs (at' + k) : Nat)) ∧ w' = w) := fun k hk => at_any v bs at' k w hv hn (by omega) (by omega)
  have hb : Hid (∀ j, byteAt bs j < 256) := byteAt_lt bs
  have hf : Hid (∀ (k m : Nat), num bs (at' + k) (m + 1) = byteAt bs (at' + k) + 256 * num bs (at' + (k + 1 : Nat)) m) := fun k m => by
    rw [num_front]; congr 3; omega
  have hl : Hid (∀ (k m : Nat), num bs (at' + k) m < 2 ^ (8 * m)) := fun k m => num_lt bs _ m
  have h0 : Hid (∀ k : Nat, num bs (at' + k) 0 = 0) := fun _ => rfl
  have hfin : Hid (num bs (at' + (0 : Nat)) many = num bs at' many) := by simp [Hid]
  obtain ⟨F, hF⟩ : ∃ F : Nat → Nat → Nat, F = fun (k m : Nat) => num bs (at' + (k : Int)) m := ⟨_, rfl⟩
  obtain ⟨R, hR⟩ : ∃ R, R = num bs at' many := ⟨_, rfl⟩
  have hf' : Hid (∀ k m : Nat, F k (m + 1) = byteAt bs (at' + k) + 256 * F (k + 1) m) := by rw [hF]; exact hf
  have hl' : Hid (∀ k m : Nat, F k m < 2 ^ (8 * m)) := by rw [hF]; exact hl
  have h0' : Hid (∀ k : Nat, F k 0 = 0) := by rw [hF]; exact h0
  have hfin' : Hid (F 0 many = R) := by rw [hF, hR]; exact hfin
  rw [← hR]
  clear hF hR hf hl h0 hfin hv
  go_enter Try.func15, Try.ntmps15
  go_wp2
  go_loop [7, 8] (fun n i => ∃ k : Nat, k ≤ many ∧ i = .int .i64 ((k : Int) - 1) ∧ n = .int .u64 (F k (many - k) : Nat)) (fun _ i => (intOf i + 1).toNat)
  case atStart => exact ⟨many, Nat.le_refl _, rfl, by rw [Nat.sub_self, h0'.out]; rfl⟩
  case round =>
    obtain ⟨k, hk, rfl, rfl⟩ := hrel
    by_cases hlt : 0 < k
    · obtain ⟨j, rfl⟩ : ∃ j, k = j + 1 := ⟨k - 1, by omega⟩
      have e0 : (((j + 1 : Nat) : Int) - 1) = (j : Int) := by omega
      rw [e0]
      go_wp2_with fail
      refine (cAt.out j (by omega)).mono ?_
      rintro e w' ⟨rfl, rfl⟩
      go_wp2
      go_round
      case rel =>
        refine ⟨j, by omega, rfl, ?_⟩
        have e1 := hf'.out j (many - (j + 1))
        have e2 := hl'.out j (many - j)
        have e3 : many - (j + 1) + 1 = many - j := by omega
        have e4 : 2 ^ (8 * (many - j)) ≤ 2 ^ 64 := Nat.pow_le_pow_right (by decide) (by omega)
        rw [e3] at e1
        have e5 := hb.out (at' + j)
        have e6 : F j (many - j) < 18446744073709551616 := Nat.lt_of_lt_of_le e2 e4
        rw [IntKind.wrap_u64, IntKind.wrap_u64, IntKind.wrap_u64]
        congr 1
        omega
      case measure => simp [intOf]
    · obtain rfl : k = 0 := by omega
      go_wp2
      go_ret
      exact ⟨ret_int (by rw [hfin'.out]), rfl⟩
end Go.Proofs.Ytlcjkmgeaiclbaa
