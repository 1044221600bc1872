/- Own: a table's dot (no statement is proved here). -/
import Derived.Test.YtfdkdbbigpphcaaDoorG4
import Derived.KernelRfl
namespace Go.Proofs.YtfdkdbbigpphcaaDoor.Ab
open Go.Proofs
set_option linter.unusedSimpArgs false
set_option linter.unusedVariables false
/-- Digits of four bits, from the lowest on. -/
def nib (v : E) (t : Nat) : Nat := (v.toNat / 2 ^ (4 * t)) % 16
/-- What the digits so far come to. -/
def sd (v h : E) : Nat → E
  | 0 => 0#128
  | t + 1 => hn 4 (sd v h t) ^^^ tb h (nib v t)
theorem nib_bit (v : E) (t i : Nat) (hi : i < 4) : (nib v t).testBit i = v.getLsbD (4 * t + i) := by
  unfold nib
  rw [show (16 : Nat) = 2 ^ 4 from rfl, Nat.testBit_mod_two_pow, ← Nat.shiftRight_eq_div_pow, Nat.testBit_shiftRight]
  simp [hi]; rfl
theorem tb_bits (h : E) (d : Nat) (hd : d < 16) : tb h d = xsum 4 (fun i => sel (d.testBit i) (hn (4 - i) h)) := by
  show tb h d = (((0#128 ^^^ sel (d.testBit 0) (hn 4 h)) ^^^ sel (d.testBit 1) (hn 3 h)) ^^^ sel (d.testBit 2) (hn 2 h)) ^^^ sel (d.testBit 3) (hn 1 h)
  rcases (by omega : d = 0 ∨ d = 1 ∨ d = 2 ∨ d = 3 ∨ d = 4 ∨ d = 5 ∨ d = 6 ∨ d = 7 ∨ d = 8 ∨ d = 9 ∨ d = 10 ∨ d = 11 ∨ d = 12 ∨ d = 13 ∨ d = 14 ∨ d = 15) with rfl | rfl | rfl | rfl | rfl | rfl | rfl | rfl | rfl | rfl | rfl | rfl | rfl | rfl | rfl | rfl <;> simp [tb, sel, Nat.testBit, Nat.shiftRight_eq_div_pow]
theorem xsum_split (n m : Nat) (f : Nat → E) : xsum (n + m) f = xsum n f ^^^ xsum m (fun i => f (n + i)) := by
  induction m with
  | zero => simp [xsum]
  | succ m ih =>
    show xsum (n + m) f ^^^ f (n + m) = xsum n f ^^^ (xsum m (fun i => f (n + i)) ^^^ f (n + m))
    rw [ih, BitVec.xor_assoc]
theorem sd_eq (v h : E) (t : Nat) : sd v h t = xsum (4 * t) (fun k => sel (v.getLsbD k) (hn (4 * t - k) h)) := by
  induction t with
  | zero => rfl
  | succ t ih =>
    unfold sd
    rw [ih, (lin_hn 4).sum, tb_bits h (nib v t) (Nat.mod_lt _ (by decide)), Nat.mul_add, xsum_split]
    congr 1
    · refine xsum_congr fun k hk => ?_
      rw [(lin_hn 4).sel, ← hn_add, show 4 + (4 * t - k) = 4 * t + 4 * 1 - k by omega]
    · refine xsum_congr fun i hi => ?_
      rw [nib_bit v t i hi, show 4 * t + 4 * 1 - (4 * t + i) = 4 - i by omega]
theorem sd_dot (v h : E) : sd v h 32 = dot v h := by
  rw [sd_eq]
  unfold dot act
  rw [(lin_hn 128).sum]
  refine xsum_congr fun k hk => ?_
  rw [(lin_hn 128).sel]
  congr 1
  have e : 128 = (128 - k) + k := by omega
  have h1 := hn_add (128 - k) k (dn lov k h)
  rw [← e, hn_dn] at h1
  rw [h1]
theorem byt_toNat (v : E) (j : Nat) (hj : j < 16) : byt v j = ((v.toNat / 2 ^ (8 * j) % 256 : Nat) : Int) := by
  have hv := v.isLt
  have e1 : (lo v).toNat = v.toNat % 2 ^ 64 := by unfold lo; rw [BitVec.toNat_setWidth]
  have e2 : (hi v).toNat = v.toNat / 2 ^ 64 := by
    unfold hi
    rw [BitVec.toNat_setWidth, BitVec.toNat_ushiftRight, Nat.shiftRight_eq_div_pow]
    exact Nat.mod_eq_of_lt (by omega)
  unfold byt B
  rw [putw_eq, putw_eq, e1, e2]
  generalize v.toNat = n at *
  by_cases h : j < 8
  · rw [if_pos h]
    rcases (by omega : j = 0 ∨ j = 1 ∨ j = 2 ∨ j = 3 ∨ j = 4 ∨ j = 5 ∨ j = 6 ∨ j = 7) with rfl | rfl | rfl | rfl | rfl | rfl | rfl | rfl <;> simp <;> omega
  · rw [if_neg h]
    obtain ⟨q, rfl⟩ : ∃ q, j = 8 + q := ⟨j - 8, by omega⟩
    have hq : q < 8 := by omega
    rw [Nat.add_sub_cancel_left]
    rcases (by omega : q = 0 ∨ q = 1 ∨ q = 2 ∨ q = 3 ∨ q = 4 ∨ q = 5 ∨ q = 6 ∨ q = 7) with rfl | rfl | rfl | rfl | rfl | rfl | rfl | rfl <;> simp <;> omega
theorem digit_e (v : E) (t : Nat) (ht : t < 32) : ((byt v (t / 2)).fdiv (2 ^ min ((4 * (t % 2) : Nat) : Int).toNat 8)).tmod 16 = ((nib v t : Nat) : Int) := by
  rw [byt_toNat v _ (by omega)]
  unfold nib
  generalize v.toNat = n
  have h2 : t % 2 = 0 ∨ t % 2 = 1 := by omega
  have key : ∀ a b : Nat, (((n / 2 ^ (8 * a) % 256 : Nat) : Int).fdiv (2 ^ min ((4 * b : Nat) : Int).toNat 8)).tmod 16 = ((n / 2 ^ (8 * a) % 256 / 2 ^ (4 * b) % 16 : Nat) : Int) ∨ 8 < 4 * b := fun a b => by
    by_cases hb : 8 < 4 * b
    · exact .inr hb
    · refine .inl ?_
      rw [Int.toNat_natCast, Nat.min_eq_left (by omega)]
      generalize n / 2 ^ (8 * a) % 256 = m
      have e : (2 : Int) ^ (4 * b) = ((2 ^ (4 * b) : Nat) : Int) := by simp
      rw [e, Int.fdiv_eq_ediv_of_nonneg _ (Int.natCast_nonneg _), Int.tmod_eq_emod_of_nonneg (Int.ediv_nonneg (Int.natCast_nonneg _) (Int.natCast_nonneg _))]
      simp
  rcases h2 with h2 | h2
  · rw [h2]
    rcases key (t / 2) 0 with k | k
    · rw [k, show 4 * t = 8 * (t / 2) by omega]
      generalize n / 2 ^ (8 * (t / 2)) = m
      congr 1
      simp
    · omega
  · rw [h2]
    rcases key (t / 2) 1 with k | k
    · rw [k, show 4 * t = 8 * (t / 2) + 4 by omega, Nat.pow_add, ← Nat.div_div_eq_div_mul]
      generalize n / 2 ^ (8 * (t / 2)) = m
      congr 1
      simp
      omega
    · omega
theorem tab_at (h : E) (d : Nat) (hd : d < 16) : List.take 2 (List.drop (0 + ((d : Nat) : Int).toNat * 2) (tabC h)) = [Value.int .u64 (B (lo (tb h d))), Value.int .u64 (B (hi (tb h d)))] := by
  rw [Int.toNat_natCast]
  rcases (by omega : d = 0 ∨ d = 1 ∨ d = 2 ∨ d = 3 ∨ d = 4 ∨ d = 5 ∨ d = 6 ∨ d = 7 ∨ d = 8 ∨ d = 9 ∨ d = 10 ∨ d = 11 ∨ d = 12 ∨ d = 13 ∨ d = 14 ∨ d = 15) with rfl | rfl | rfl | rfl | rfl | rfl | rfl | rfl | rfl | rfl | rfl | rfl | rfl | rfl | rfl | rfl <;> rfl
theorem tab_len (h : E) : (tabC h).length = 32 := rfl
end Go.Proofs.YtfdkdbbigpphcaaDoor.Ab
