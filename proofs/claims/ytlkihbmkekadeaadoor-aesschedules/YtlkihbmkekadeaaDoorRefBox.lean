/- Own: the contract of the reference's Box (no statement is proved here). -/
import Derived.Test.YtlkihbmkekadeaaDoorRefBit
import Derived.Test.YtlkihbmkekadeaaDoorRefInv
namespace Go.Proofs.YtlkihbmkekadeaaDoor
open Go.ChangeShapes Go.WideShapes Go.ChangeAt Go.RowKit
set_option maxRecDepth 20000
set_option maxHeartbeats 1600000 in
theorem ref_box_core (a x : Int) (b c O : Nat → Nat) (w : World) (o0 : Hid (O 0 = 0))
    (hS : Hid (∀ k, k < 8 → bits .or .u8 (O k : Nat) (bits .xor .u8 (bits .xor .u8 (bits .xor .u8 (bits .xor .u8 (bits .xor .u8 (b k : Nat) (b (k + 7) : Nat)) (b (k + 6) : Nat)) (b (k + 5) : Nat)) (b (k + 4) : Nat)) (c k : Nat) * 2 ^ k % 256) = (O (k + 1) : Nat)))
    (cI : Hid (∀ w, Calls Tryd.prog 78 #[.int .u8 a] w fun e w' => e = .returned (.int .u8 x) ∧ w' = w))
    (cB : Hid (∀ (i : Nat) w, i < 16 → Calls Tryd.prog 79 #[.int .u8 x, .int .i64 i] w fun e w' => e = .returned (.int .u8 (b i : Nat)) ∧ w' = w))
    (cC : Hid (∀ (i : Nat) w, i < 16 → Calls Tryd.prog 79 #[.int .u8 99, .int .i64 i] w fun e w' => e = .returned (.int .u8 (c i : Nat)) ∧ w' = w)) :
    Calls Tryd.prog 66 #[.int .u8 a] w fun e w' => e = .returned (.int .u8 (O 8 : Nat)) ∧ w' = w := by
  go_enter Tryd.func66, Tryd.ntmps66
  go_wp2_with fail
  refine (cI.out _).mono ?_
  rintro e w' ⟨rfl, rfl⟩
  go_wp2
  go_loop [4, 5] (fun o i => ∃ k : Nat, k ≤ 8 ∧ i = .int .i64 k ∧ o = .int .u8 (O k : Nat)) (fun _ i => 8 - (intOf i).toNat)
  case atStart => exact ⟨0, by omega, rfl, by rw [o0.out]; rfl⟩
  case round =>
    obtain ⟨k, hk, rfl, rfl⟩ := hrel
    by_cases hlt : k < 8
    · obtain ⟨o, ho⟩ : ∃ o, o = O k := ⟨_, rfl⟩
      have hs := hS.out k hlt
      rw [← ho] at hs ⊢
      clear ho
      have k0 := hide (fun w => cB.out k w (by omega))
      have k7 : Hid (∀ w, Calls Tryd.prog 79 #[.int .u8 x, .int .i64 ((k : Int) + 7)] w fun e w' => e = .returned (.int .u8 (b (k + 7) : Nat)) ∧ w' = w) := fun w => by have h := cB.out (k + 7) w (by omega); rw [Int.natCast_add] at h; exact h
      have k6 : Hid (∀ w, Calls Tryd.prog 79 #[.int .u8 x, .int .i64 ((k : Int) + 6)] w fun e w' => e = .returned (.int .u8 (b (k + 6) : Nat)) ∧ w' = w) := fun w => by have h := cB.out (k + 6) w (by omega); rw [Int.natCast_add] at h; exact h
      have k5 : Hid (∀ w, Calls Tryd.prog 79 #[.int .u8 x, .int .i64 ((k : Int) + 5)] w fun e w' => e = .returned (.int .u8 (b (k + 5) : Nat)) ∧ w' = w) := fun w => by have h := cB.out (k + 5) w (by omega); rw [Int.natCast_add] at h; exact h
      have k4 : Hid (∀ w, Calls Tryd.prog 79 #[.int .u8 x, .int .i64 ((k : Int) + 4)] w fun e w' => e = .returned (.int .u8 (b (k + 4) : Nat)) ∧ w' = w) := fun w => by have h := cB.out (k + 4) w (by omega); rw [Int.natCast_add] at h; exact h
      have kc := hide (fun w => cC.out k w (by omega))
      generalize b k = b0 at k0 hs
      generalize b (k + 7) = b7 at k7 hs
      generalize b (k + 6) = b6 at k6 hs
      generalize b (k + 5) = b5 at k5 hs
      generalize b (k + 4) = b4 at k4 hs
      generalize c k = c0 at kc hs
      have HS := hide hs
      clear hs
      go_wp2_with fail
      refine (k0.out _).mono ?_
      rintro e w' ⟨rfl, rfl⟩
      go_wp2_with fail
      refine (k7.out _).mono ?_
      rintro e w' ⟨rfl, rfl⟩
      go_wp2_with fail
      refine (k6.out _).mono ?_
      rintro e w' ⟨rfl, rfl⟩
      go_wp2_with fail
      refine (k5.out _).mono ?_
      rintro e w' ⟨rfl, rfl⟩
      go_wp2_with fail
      refine (k4.out _).mono ?_
      rintro e w' ⟨rfl, rfl⟩
      go_wp2_with fail
      refine (kc.out _).mono ?_
      rintro e w' ⟨rfl, rfl⟩
      go_wp2
      refine ⟨⟨k + 1, by omega, by go_num, ?_⟩, ?_⟩
      · rw [HS.out]
      · simp [intOf]; omega
    · obtain rfl : k = 8 := by omega
      go_wp2
      go_ret
      exact ⟨rfl, rfl⟩
def bx (x i : Nat) : Nat := x / 2 ^ (i % 8) % 2
def xb (x k : Nat) : Nat := ((((bx x k ^^^ bx x (k + 7)) ^^^ bx x (k + 6)) ^^^ bx x (k + 5)) ^^^ bx x (k + 4)) ^^^ bx 99 k
def ob (x : Nat) : Nat → Nat
  | 0 => 0
  | k + 1 => ob x k ||| (xb x k * 2 ^ k % 256)
theorem bx_lt (x i : Nat) : bx x i < 256 := Nat.lt_trans (Nat.mod_lt _ (by decide)) (by decide)
theorem x_lt {p q : Nat} (hp : p < 256) (hq : q < 256) : p ^^^ q < 256 := Nat.xor_lt_two_pow (n := 8) hp hq
theorem ob_lt (x : Nat) : ∀ k, ob x k < 256
  | 0 => by show 0 < 256; decide
  | k + 1 => Nat.or_lt_two_pow (n := 8) (ob_lt x k) (Nat.mod_lt _ (by decide))
theorem ob_box : ∀ x, x < 256 → ob x 8 = boxTo x 4 := by decide +kernel
theorem ob_step (x k : Nat) : bits .or .u8 (ob x k : Nat) (bits .xor .u8 (bits .xor .u8 (bits .xor .u8 (bits .xor .u8 (bits .xor .u8 (bx x k : Nat) (bx x (k + 7) : Nat)) (bx x (k + 6) : Nat)) (bx x (k + 5) : Nat)) (bx x (k + 4) : Nat)) (bx 99 k : Nat) * 2 ^ k % 256) = (ob x (k + 1) : Nat) := by
  have l := bx_lt x
  rw [xor_u8 _ _ (l _) (l _), xor_u8 _ _ (x_lt (l _) (l _)) (l _), xor_u8 _ _ (x_lt (x_lt (l _) (l _)) (l _)) (l _), xor_u8 _ _ (x_lt (x_lt (x_lt (l _) (l _)) (l _)) (l _)) (l _), xor_u8 _ _ (x_lt (x_lt (x_lt (x_lt (l _) (l _)) (l _)) (l _)) (l _)) (bx_lt 99 k)]
  have e : ((xb x k : Nat) : Int) * 2 ^ k % 256 = ((xb x k * 2 ^ k % 256 : Nat) : Int) := by simp
  show bits .or .u8 (ob x k : Nat) (((xb x k : Nat) : Int) * 2 ^ k % 256) = _
  rw [e, or_u8 _ _ (ob_lt x k) (Nat.mod_lt _ (by decide))]
  rfl
theorem ref_box (a : Nat) (ha : a < 256) (w : World) : Calls Tryd.prog 66 #[.int .u8 a] w fun e w' => e = .returned (.int .u8 (sbox a : Nat)) ∧ w' = w := by
  have h := ref_box_core a (inv a : Nat) (bx (inv a)) (bx 99) (ob (inv a)) w (hide rfl) (hide fun k _ => ob_step _ k) (hide (ref_inverse a ha)) (hide fun i w hi => ref_bit (inv a) i hi w) (hide fun i w hi => ref_bit 99 i hi w)
  rw [ob_box _ (inv_lt a ha)] at h
  exact h
end Go.Proofs.YtlkihbmkekadeaaDoor
