/- Own: how arguments of layer 11 are opened (no statement is proved here). -/
import Derived.Test.YtdeobbgkfhnhlaaL8
namespace Go.Proofs.Ytdeobbgkfhnhlaa
open Go.ChangeShapes Go.WideShapes Go.ChangeAt Go.RowKit Go.Joins Ab
set_option maxRecDepth 4000
set_option linter.unusedSimpArgs false
theorem drop_cut (l : List Value) (o s : Nat) : l.drop o = (l.drop o).take s ++ l.drop (o + s) := by
  have := (List.take_append_drop s (l.drop o)).symm
  rwa [List.drop_drop] at this
theorem relL_app {ρ : Rho} {l l' : List AV} {vs vs' : List Value} (h : RelL ρ l vs) (h' : RelL ρ l' vs') : RelL ρ (l ++ l') (vs ++ vs') := by
  refine ⟨by simp [h.1, h'.1], fun i x v h1 h2 => ?_⟩
  by_cases hi : i < l.length
  · rw [List.getElem?_append_left hi] at h1
    rw [List.getElem?_append_left (by rw [← h.1]; exact hi)] at h2
    exact h.2 i x v h1 h2
  · rw [List.getElem?_append_right (by omega)] at h1
    rw [List.getElem?_append_right (by rw [← h.1]; omega), ← h.1] at h2
    exact h'.2 _ x v h1 h2
theorem rel_agg {ρ : Rho} {l : List AV} {vs : List Value} (h : RelL ρ l vs) : Rel ρ (.agg l) (.agg vs.toArray) := .agg h.1 h.2

theorem two_cells {H : Type} {enc : TypeId × Value → H} {W : World} {m : Nat} {cs : List Value} {x : DataW H × List MemPlace} (h : DataW.trod enc Try.prog W 0 (fun _ => true) true m 33 cs = some x) :
    ∃ (a_0 : Option Addr) (len_0 : Nat) (cap_0 : Nat) (bs_0 : List Int) (a_1 : Option Addr) (len_1 : Nat) (cap_1 : Nat) (bs_1 : List Int), cs = [Value.slice a_0 len_0 cap_0] ++ [Value.slice a_1 len_1 cap_1] ∧ (∀ x ∈ bs_0, R8 x) ∧ bs_0.length ≤ 9223372036854775807 ∧ SliceAt W (.slice a_0 len_0 cap_0) .u8 bs_0 ∧ (∀ x ∈ bs_1, R8 x) ∧ bs_1.length ≤ 9223372036854775807 ∧ SliceAt W (.slice a_1 len_1 cap_1) .u8 bs_1 := by
  obtain ⟨xs, n, _, _, hc, hl, hel⟩ := DataW.trod_struct Try.underlying33 h
  have cN : Try.prog.cellsOf 33 = 2 := by kernel_rfl
  rw [cN] at hc
  have hl4 : xs.length = 2 := hl
  have h0 : DataW.trod enc Try.prog W 0 (fun _ => true) true n 23 ((cs.drop 0).take (Try.prog.cellsOf 23)) = xs[0]? := hel 0 _ rfl
  rw [List.getElem?_eq_getElem (by omega), show Try.prog.cellsOf 23 = 1 by kernel_rfl] at h0
  obtain ⟨a_0, len_0, cap_0, e0⟩ := slice_form Try.underlying23 h0
  rw [e0] at h0
  obtain ⟨bs_0, hb_0, hl_0, hs_0⟩ := s8_of_trod (enc := enc) (a := a_0) (len := len_0) (cap := cap_0) (d := xs[0].1) (p := xs[0].2) ⟨n, by simpa [Value.cells] using h0⟩
  have h1 : DataW.trod enc Try.prog W 0 (fun _ => true) true n 23 ((cs.drop 1).take (Try.prog.cellsOf 23)) = xs[1]? := hel 1 _ rfl
  rw [List.getElem?_eq_getElem (by omega), show Try.prog.cellsOf 23 = 1 by kernel_rfl] at h1
  obtain ⟨a_1, len_1, cap_1, e1⟩ := slice_form Try.underlying23 h1
  rw [e1] at h1
  obtain ⟨bs_1, hb_1, hl_1, hs_1⟩ := s8_of_trod (enc := enc) (a := a_1) (len := len_1) (cap := cap_1) (d := xs[1].1) (p := xs[1].2) ⟨n, by simpa [Value.cells] using h1⟩
  refine ⟨a_0, len_0, cap_0, bs_0, a_1, len_1, cap_1, bs_1, ?_, hb_0, hl_0, hs_0, hb_1, hl_1, hs_1⟩
  have sp : cs = (cs.drop 0).take 1 ++ (cs.drop 1).take 1 := by
    have hz : cs.drop 2 = [] := List.drop_eq_nil_of_le (by omega)
    have t2 : cs.drop 2 = [] := hz
    have t1 : cs.drop 1 = (cs.drop 1).take 1 := by
      have := drop_cut cs 1 1
      rwa [t2, List.append_nil] at this
    have t0 : cs.drop 0 = ((cs.drop 0).take 1 ++ (cs.drop 1).take 1) := by
      have := drop_cut cs 0 1
      rwa [t1] at this
    rw [List.drop_zero] at t0
    refine t0.trans ?_
    simp only [List.append_assoc, List.drop_zero]
  rw [sp, e0, e1]
theorem two_of_trod {H : Type} {enc : TypeId × Value → H} {W : World} {base : Nat} {v : Value} {d : DataW H} {p : List MemPlace} (hv : Value.okWide Try.prog W .any base 33 v)
    (h : DataW.Trod enc Try.prog W 0 (fun _ => true) true 33 v d p) : ∃ (a_0 : Option Addr) (len_0 : Nat) (cap_0 : Nat) (bs_0 : List Int) (a_1 : Option Addr) (len_1 : Nat) (cap_1 : Nat) (bs_1 : List Int), v = .agg ([Value.slice a_0 len_0 cap_0] ++ [Value.slice a_1 len_1 cap_1]).toArray ∧ (∀ x ∈ bs_0, R8 x) ∧ bs_0.length ≤ 9223372036854775807 ∧ SliceAt W (.slice a_0 len_0 cap_0) .u8 bs_0 ∧ (∀ x ∈ bs_1, R8 x) ∧ bs_1.length ≤ 9223372036854775807 ∧ SliceAt W (.slice a_1 len_1 cap_1) .u8 bs_1 := by
  obtain ⟨cs, rfl⟩ : ∃ cs, v = .agg cs := by
    unfold Value.okWide at hv
    rw [Try.underlying33] at hv
    cases v <;> simp_all
  obtain ⟨fuel, hf⟩ := h
  obtain ⟨a_0, len_0, cap_0, bs_0, a_1, len_1, cap_1, bs_1, e, hh⟩ := two_cells hf
  simp only [Value.cells] at e
  exact ⟨a_0, len_0, cap_0, bs_0, a_1, len_1, cap_1, bs_1, by rw [← e], hh⟩

end Go.Proofs.Ytdeobbgkfhnhlaa
