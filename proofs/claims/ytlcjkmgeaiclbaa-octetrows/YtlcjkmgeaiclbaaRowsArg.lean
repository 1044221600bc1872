/- Own: how the argument of type Rows is opened, and the contract of few (no statement is proved here). -/
import Derived.Test.YtlcjkmgeaiclbaaLift
import Derived.Test.YtlcjkmgeaiclbaaLoad
import Derived.Lib.SmallJoins
namespace Go.Proofs.Ytlcjkmgeaiclbaa
open Go.ChangeShapes Go.WideShapes Go.ChangeAt Go.RowKit Go.Joins

theorem rows_of_trod {H : Type} {enc : TypeId × Value → H} {W : World} {base : Nat} {v : Value} {d : DataW H} {p : List MemPlace} (hv : Value.okWide Try.prog W .any base 47 v)
    (h : DataW.Trod enc Try.prog W 0 (fun _ => true) true 47 v d p) :
    ∃ (A B : Value) (m : UInt8) (s : Int) (xs ys : List UInt8), v = .agg #[A, B, .int .u8 (m.toNat : Int), .int .i64 s] ∧ IsB W A xs ∧ IsB W B ys ∧ (-9223372036854775808 ≤ s ∧ s ≤ 9223372036854775807) := by
  obtain ⟨c0, c1, c2, c3, y0, y1, y2, y3, n, rfl, rfl, rfl, h0, h1, h2, h3⟩ := open_agg4 Try.underlying47 (by kernel_rfl) (by kernel_rfl) hv h
  obtain ⟨a, e2, _, wa⟩ := DataW.trod_int Try.underlying5 h2
  obtain ⟨b, e3, _, wb⟩ := DataW.trod_int Try.underlying3 h3
  simp at e2 e3
  subst e2 e3
  have ba := bounds_u8 wa
  have bb := bounds_i64 wb
  obtain ⟨a0, n0, k0, e0⟩ := slice_form Try.underlying22 h0
  obtain ⟨a1, n1, k1, e1⟩ := slice_form Try.underlying22 h1
  simp at e0 e1
  subst e0 e1
  obtain ⟨xs, _, hx⟩ := isB_of_trod (enc := enc) (d := y0.1) (p := y0.2) ⟨n, by simpa [Value.cells] using h0⟩
  obtain ⟨ys, _, hy⟩ := isB_of_trod (enc := enc) (d := y1.1) (p := y1.2) ⟨n, by simpa [Value.cells] using h1⟩
  refine ⟨_, _, UInt8.ofNat a.toNat, b, xs, ys, ?_, hx, hy, bb⟩
  have e : ((UInt8.ofNat a.toNat).toNat : Int) = a := by
    rw [UInt8.toNat_ofNat', Nat.mod_eq_of_lt (by omega)]; omega
  rw [e]

set_option maxHeartbeats 400000 in
theorem few_any (a a' : Option Addr) (n c n' c' : Nat) (m s : Int) (w : World) :
    Calls Try.prog 28 #[.agg #[.slice a n c, .slice a' n' c', .int .u8 m, .int .i64 s]] w fun e w' => e = .returned (.bool (decide ((n : Int) ≤ 300) && decide ((n' : Int) ≤ 300) && decide (s ≤ 300))) ∧ Below w.heap.size w w' := by
  have fin : Below w.heap.size w (w.alloc (.cells #[.slice a n c, .slice a' n' c', .int .u8 m, .int .i64 s] 47)) := below_alloc (Below.refl _ _) _
  by_cases h1 : (n : Int) ≤ 300
  · by_cases h2 : (n' : Int) ≤ 300
    · by_cases h3 : s ≤ 300
      · have e : (decide ((n : Int) ≤ 300) && decide ((n' : Int) ≤ 300) && decide (s ≤ 300)) = true := by simp [h1, h2, h3]
        rw [e]
        go_enter Try.func28, Try.ntmps28
        go_wp2
        go_ret
        exact ⟨rfl, fin⟩
      · have e : (decide ((n : Int) ≤ 300) && decide ((n' : Int) ≤ 300) && decide (s ≤ 300)) = false := by simp [h1, h2, h3]
        have h3' : decide (s ≤ 300) = false := by simp [h3]
        rw [e]
        clear h3
        go_enter Try.func28, Try.ntmps28
        go_wp2
        go_ret
        exact ⟨rfl, fin⟩
    · have e : (decide ((n : Int) ≤ 300) && decide ((n' : Int) ≤ 300) && decide (s ≤ 300)) = false := by simp [h1, h2]
      have h2' : decide ((n' : Int) ≤ 300) = false := by simp [h2]
      rw [e]
      clear h2
      go_enter Try.func28, Try.ntmps28
      go_wp2
      go_ret
      exact ⟨rfl, fin⟩
  · have e : (decide ((n : Int) ≤ 300) && decide ((n' : Int) ≤ 300) && decide (s ≤ 300)) = false := by simp [h1]
    have h1' : decide ((n : Int) ≤ 300) = false := by simp [h1]
    rw [e]
    clear h1
    go_enter Try.func28, Try.ntmps28
    go_wp2
    go_ret
    exact ⟨rfl, fin⟩
end Go.Proofs.Ytlcjkmgeaiclbaa
