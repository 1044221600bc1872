/- Proved here: for all numbers n, lo, hi OctetBack returns true and leaves its arguments as they were (what is put is the number again, of 32, 64 and 128 bits); no condition. -/
import Derived.Test.YtlcjkmgeaiclbaaBack
namespace Go.Proofs.Ytlcjkmgeaiclbaa
open Go.ChangeShapes Go.WideShapes Go.ChangeAt Go.RowKit

theorem putB_get (n k i : Nat) (h : i < k) : (putB n k).getD i 0 = UInt8.ofNat (n / 256 ^ i) := by
  simp [putB, h]
theorem num_putB (n k : Nat) : ∀ j, j ≤ k → num (putB n k) 0 j = n % 256 ^ j
  | 0, _ => by simp [num, Nat.mod_one]
  | j + 1, h => by
    have ih := num_putB n k j (by omega)
    unfold num
    rw [ih, Int.zero_add, byteAt_pos, putB_get n k j (by omega), UInt8.toNat_ofNat', Nat.mod_pow_succ (b := 256) (k := j), Nat.pow_mul, Nat.mul_comm (256 ^ j)]
theorem num_left (A B : List UInt8) (hA : A.length = 8) : ∀ j, j ≤ 8 → num (A ++ B) 0 j = num A 0 j
  | 0, _ => rfl
  | j + 1, h => by
    unfold num
    rw [num_left A B hA j (by omega), Int.zero_add, byteAt_pos, byteAt_pos]
    congr 3
    simp only [List.getD_eq_getElem?_getD, List.getElem?_append_left (show j < A.length by omega)]
theorem num_right (A B : List UInt8) (hA : A.length = 8) : ∀ j, j ≤ 8 → num (A ++ B) 8 j = num B 0 j
  | 0, _ => rfl
  | j + 1, h => by
    unfold num
    have e : (8 : Int) + (j : Int) = ((8 + j : Nat) : Int) := by omega
    rw [num_right A B hA j (by omega), Int.zero_add, e, byteAt_pos, byteAt_pos]
    congr 3
    simp only [List.getD_eq_getElem?_getD, List.getElem?_append_right (show A.length ≤ 8 + j by omega)]
    rw [hA, Nat.add_sub_cancel_left]
theorem blk_self (bs : List UInt8) (h : bs.length = 16) : blk bs = bs := by
  rw [← blk_take bs, h, List.take_of_length_le (by omega)]; simp
theorem allone_b (bs : List UInt8) : (bcells bs).toArray.all (·.oneCell') = true := by
  rw [Array.all_eq_true]; intro i hi; exact bcells_one bs _ (by simp)
theorem num_put4 (n : Nat) (h : n < 4294967296) : num (putB n 4) 0 4 = n := by
  rw [num_putB n 4 4 (Nat.le_refl _)]; exact Nat.mod_eq_of_lt h
theorem num_put8 (n : Nat) (h : n < 18446744073709551616) : num (putB n 8) 0 8 = n := by
  rw [num_putB n 8 8 (Nat.le_refl _)]; exact Nat.mod_eq_of_lt h
theorem bytes_any (lo hi : Nat) (h1 : lo < 18446744073709551616) (h2 : hi < 18446744073709551616) (w : World) :
    Calls Try.prog 22 #[.agg #[.int .u64 lo, .int .u64 hi]] w fun e w' => e = .returned (.agg (bcells (putB lo 8 ++ putB hi 8)).toArray) ∧ Below w.heap.size w w' := by
  have h := bytes_core lo hi (bcells (putB lo 8)) (bcells (putB hi 8)) (by rw [length_bcells, length_putB]) (by rw [length_bcells, length_putB]) (hide (allone_b _)) (hide (allone_b _)) w (hide (putlong_any lo h1)) (hide (putlong_any hi h2))
  have e : bcells (putB lo 8) ++ bcells (putB hi 8) = bcells (putB lo 8 ++ putB hi 8) := by simp [bcells]
  rw [e] at h
  exact h
theorem back_nat (w : World) (n lo hi : Nat) (hn : n < 4294967296) (h1 : lo < 18446744073709551616) (h2 : hi < 18446744073709551616) :
    Calls Try.prog 7 #[.int .u32 n, .int .u64 lo, .int .u64 hi] w fun e w' => e = .returned (.bool true) ∧ Below w.heap.size w w' := by
  have l4 := length_putB n 4
  have l8 := length_putB lo 8
  have lC : (putB lo 8 ++ putB hi 8).length = 16 := by rw [List.length_append, length_putB, length_putB]
  refine back_core n lo hi (bcells (putB n 4)) (bcells (putB lo 8)) (bcells (putB lo 8 ++ putB hi 8)) (by rw [length_bcells, l4]) (by rw [length_bcells, l8]) (by rw [length_bcells, lC]) (hide (allone_b _)) (hide (allone_b _)) (hide (allone_b _)) w ?_
    (hide (putword_any n hn)) (hide (putlong_any lo h1)) (hide (bytes_any lo hi h1 h2)) (hide fun w g hg => ?_) (hide fun w g hg => ?_) (hide fun w g hg => ?_) (hide fun w g hg => ?_)
  · intro w; rw [eq_bytes w _ 16 Try.underlying27 _ _ lC lC]; simp
  · have h := word_any _ (putB n 4) 0 w (isB_row w g 4 _ _ l4 (by decide) hg 4)
    rw [num_put4 n hn] at h; exact h
  · have h := long_any _ (putB lo 8) 0 w (isB_row w g 8 _ _ l8 (by decide) hg 8)
    rw [num_put8 lo h1] at h; exact h
  · have h := load_any _ (putB lo 8 ++ putB hi 8) w (isB_row w g 16 _ _ lC (by decide) hg 16)
    rw [num_left _ _ l8 8 (by decide), num_right _ _ l8 8 (by decide), num_put8 lo h1, num_put8 hi h2] at h; exact h
  · have h := block_any _ (putB lo 8 ++ putB hi 8) w (isB_row w g 16 _ _ lC (by decide) hg 16)
    rw [blk_self _ lC] at h; exact h
theorem back_walk (w : World) (n : Int) (hn : 0 ≤ n ∧ n ≤ 4294967295) (lo : Int) (h1 : 0 ≤ lo ∧ lo ≤ 18446744073709551615) (hi : Int) (h2 : 0 ≤ hi ∧ hi ≤ 18446744073709551615) :
    Calls Try.prog 7 #[.int .u32 n, .int .u64 lo, .int .u64 hi] w fun e w' => e = .returned (.bool true) ∧ Below w.heap.size w w' := by
  obtain ⟨n, rfl⟩ := Int.eq_ofNat_of_zero_le hn.1
  obtain ⟨lo, rfl⟩ := Int.eq_ofNat_of_zero_le h1.1
  obtain ⟨hi, rfl⟩ := Int.eq_ofNat_of_zero_le h2.1
  exact back_nat w n lo hi (by omega) (by omega) (by omega)

set_option linter.unusedVariables false in
set_option maxRecDepth 100000 in
theorem octetBack_lifted (os : Os) (started : os.Started) (H : Type) (enc : TypeId × Value → H) :
    ReturnsInHanded {} Try.checked os 7 .any (Rows.octetBackSpec.pre6 enc Try.prog Try.f7 Rows.octetBackRow.domain false) (Rows.octetBackSpec.post enc Try.prog Try.f7 false true false false) := by
  refine returnsInHanded_of_change (C := Try.checked) own started (by kernel_rfl) Try.func7
    (ChangeSpec.witness6 (enc := enc) (C := Try.checked) false ⟨#[], #[.int .u32 0, .int .u64 0, .int .u64 0], []⟩ 8 (by kernel_rfl) (by kernel_rfl) (by kernel_rfl) (by kernel_rfl)) ?_
  intro W base args ds gs before hval0 hW hcnd _
  have hval : ∀ (j : Nat) t v, Try.f7.params[j]? = some t → args[j]? = some v → Value.okWide Try.prog W .any base t v := hval0
  have hW' := hW
  obtain ⟨p, q, hA0, hV, rfl, hfz, hnd⟩ := hW
  have hA : DataW.TrodAll enc Try.prog W 0 (fun _ => true) true Try.f7.params.toList args.toList ds p := hA0
  rw [Try.params7] at hA hval
  obtain ⟨v0, vs0, d0, ds0, p0, q0, hargs, rfl, rfl, h0, r0⟩ := trodAll_cons hA
  obtain ⟨v1, vs1, d1, ds1, p1, q1, rfl, rfl, rfl, h1, r1⟩ := trodAll_cons r0
  obtain ⟨v2, vs2, d2, ds2, p2, q2, rfl, rfl, rfl, h2, r2⟩ := trodAll_cons r1
  obtain ⟨rfl, rfl, rfl⟩ := trodAll_nil r2
  obtain rfl : args = #[v0, v1, v2] := by cases args; simp_all
  obtain ⟨rfl, rfl⟩ := trodVars_none hV
  have lt0 : ∀ x ∈ p0, x.block < W.heap.size := by obtain ⟨m, hm⟩ := h0; exact DataW.trod_lt m _ _ _ hm
  have lt1 : ∀ x ∈ p1, x.block < W.heap.size := by obtain ⟨m, hm⟩ := h1; exact DataW.trod_lt m _ _ _ hm
  have lt2 : ∀ x ∈ p2, x.block < W.heap.size := by obtain ⟨m, hm⟩ := h2; exact DataW.trod_lt m _ _ _ hm
  obtain ⟨n0, rfl, hd0, hp0, wn0⟩ := open_int Try.underlying29 (hval 0 29 v0 rfl rfl) h0
  obtain ⟨n1, rfl, hd1, hp1, wn1⟩ := open_int Try.underlying23 (hval 1 23 v1 rfl rfl) h1
  obtain ⟨n2, rfl, hd2, hp2, wn2⟩ := open_int Try.underlying23 (hval 2 23 v2 rfl rfl) h2
  clear hA0 hval0
  refine (back_walk W n0 (bounds_u32 wn0) n1 (bounds_u64 wn1) n2 (bounds_u64 wn2)).mono fun e W' ⟨he, bel⟩ => ?_
  subst he
  exact ⟨_, rfl, _, _, _, [], _, [], hW', trodAll_mk1 (shut_bool Try.underlying4 _), (trodAll_cons_mk (Below.trod laidOut (by kernel_rfl) (of_decide_eq_true (by kernel_rfl)) h0 bel lt0) (trodAll_cons_mk (Below.trod laidOut (by kernel_rfl) (of_decide_eq_true (by kernel_rfl)) h1 bel lt1) (trodAll_cons_mk (Below.trod laidOut (by kernel_rfl) (of_decide_eq_true (by kernel_rfl)) h2 bel lt2) trodAll_mk0))), rfl, bel.frame _, fun h => by cases h⟩

theorem octetBack_holds : Rows.OctetBackSaid :=
  OpenClaim.holds_of_wide 7 Try.f7 rfl rfl rfl rfl rfl rfl rfl ⟨rfl, rfl, rfl, rfl, rfl⟩ rfl rfl rfl rfl rfl (by kernel_rfl) Try.func7 (by kernel_rfl)
    (of_decide_eq_true (by kernel_rfl)) (by unfold Func.isWrapper; first | (rw [if_pos (by decide +kernel)]; kernel_rfl) | (rw [if_neg (by decide +kernel)]; exact ⟨rfl, rfl⟩))
    (fun os started H enc _ => octetBack_lifted os started H enc)
#print axioms octetBack_holds

end Go.Proofs.Ytlcjkmgeaiclbaa
