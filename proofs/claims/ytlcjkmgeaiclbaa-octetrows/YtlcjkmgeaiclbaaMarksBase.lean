/- Own: the plain law of OctetMarks, and its short ways (no statement is proved here). -/
import Derived.Test.YtlcjkmgeaiclbaaRowsArg
import Derived.Test.YtlcjkmgeaiclbaaXor
namespace Go.Proofs.Ytlcjkmgeaiclbaa
open Go.ChangeShapes Go.WideShapes Go.ChangeAt Go.RowKit

/-! The plain law: the last byte that is not 0 is the mark. -/
theorem drop_noughts (k : Nat) (m : UInt8) (l : List UInt8) (hm : m ≠ 0) : (List.replicate k 0 ++ m :: l).dropWhile (· == 0) = m :: l := by
  induction k with
  | zero => simp [hm]
  | succ k ih => simpa [List.replicate_succ] using ih
theorem marked_alike (xs ys : List UInt8) (m : UInt8) (k l : Nat) (hm : m ≠ 0) (h : xs ++ m :: List.replicate k 0 = ys ++ m :: List.replicate l 0) : xs = ys := by
  have h2 := congrArg List.reverse h
  simp only [List.reverse_append, List.reverse_cons, List.reverse_replicate, List.append_assoc, List.singleton_append] at h2
  have h3 := congrArg (List.dropWhile (· == 0)) h2
  rw [drop_noughts _ _ _ hm, drop_noughts _ _ _ hm] at h3
  simpa using h3
theorem up_mod (n : Nat) (s : Nat) (hs : 1 ≤ s) : up n s % s = 0 := by
  unfold up
  rw [if_neg (by omega), Int.toNat_natCast]
  have h := Nat.mod_lt n (show 0 < s by omega)
  have e := Nat.div_add_mod n s
  by_cases h0 : n % s = 0
  · rw [h0, Nat.sub_zero, Nat.mod_self, Nat.add_zero, h0]
  · rw [Nat.mod_eq_of_lt (show s - n % s < s by omega)]
    have : n + (s - n % s) = s * (n / s) + s := by omega
    rw [this]; simp
theorem held_from {W0 w1 : World} {N : Nat} (hb : Below W0.heap.size W0 w1) (hN : N ≤ W0.heap.size) :
    Below W0.heap.size W0 w1.drew ∧ N ≤ w1.drew.heap.size ∧ ∀ b o, b < N → w1.drew.cell? ⟨b, o, none⟩ = W0.cell? ⟨b, o, none⟩ :=
  ⟨hb.drew, Nat.le_trans hN hb.size, fun b o h => hb.cell (p := ⟨b, o, none⟩) (Nat.lt_of_lt_of_le h hN)⟩
/-- The same from a later world on. -/
theorem held_again {W0 w1 : World} {N : Nat} (hb : Below W0.heap.size W0 w1) (hN : N ≤ W0.heap.size) :
    Below w1.heap.size w1 w1.drew ∧ N ≤ w1.drew.heap.size ∧ ∀ b o, b < N → w1.drew.cell? ⟨b, o, none⟩ = W0.cell? ⟨b, o, none⟩ :=
  ⟨(Below.refl _ _).drew, Nat.le_trans hN hb.size, fun b o h => hb.cell (p := ⟨b, o, none⟩) (Nat.lt_of_lt_of_le h hN)⟩

theorem marks_out (a a' : Option Addr) (n c n' c' : Nat) (m s : Int) (w : World) (h : (decide ((n : Int) ≤ 300) && decide ((n' : Int) ≤ 300) && decide (s ≤ 300)) = false) :
    Calls Try.prog 10 #[.agg #[.slice a n c, .slice a' n' c', .int .u8 m, .int .i64 s]] w fun e w' => e = .returned (.bool true) ∧ Below w.heap.size w w' := by
  have k := fun w => few_any a a' n c n' c' m s w
  rw [h] at k
  have K := hide k
  clear k h
  go_enter Try.func10, Try.ntmps10
  go_wp2_with fail
  refine (K.out _).mono ?_
  rintro e w1 ⟨rfl, hb⟩
  go_wp2
  go_ret
  exact ⟨rfl, below_two (below_alloc (Below.refl _ _) _) hb⟩
theorem marks_nought (a a' : Option Addr) (n c n' c' : Nat) (s : Int) (w : World) (h : (decide ((n : Int) ≤ 300) && decide ((n' : Int) ≤ 300) && decide (s ≤ 300)) = true) :
    Calls Try.prog 10 #[.agg #[.slice a n c, .slice a' n' c', .int .u8 0, .int .i64 s]] w fun e w' => e = .returned (.bool true) ∧ Below w.heap.size w w' := by
  have k := fun w => few_any a a' n c n' c' 0 s w
  rw [h] at k
  have K := hide k
  clear k h
  go_enter Try.func10, Try.ntmps10
  go_wp2_with fail
  refine (K.out _).mono ?_
  rintro e w1 ⟨rfl, hb⟩
  have hc : w1.cell? ⟨w.heap.size, 2, none⟩ = some (.int .u8 0) := later hb (by simp [go_sem])
  go_wp2
  go_ret
  exact ⟨rfl, below_two (below_alloc (Below.refl _ _) _) hb⟩

end Go.Proofs.Ytlcjkmgeaiclbaa
