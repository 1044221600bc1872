/- Own: how arguments of layer 12 are opened (no statement is proved here). -/
import Derived.Test.YtddnfcgbfpbagaaL0
namespace Go.Proofs.Ytddnfcgbfpbagaa
open Go.ChangeShapes Go.WideShapes Go.ChangeAt Go.RowKit Go.Joins Ab
set_option maxRecDepth 4000
set_option linter.unusedSimpArgs false
theorem s8_of_trod {H : Type} {enc : TypeId × Value → H} {W : World} {a : Option Addr} {len cap : Nat} {d : DataW H} {p : List MemPlace}
    (h : DataW.Trod enc Try.prog W 0 (fun _ => true) true 27 (.slice a len cap) d p) : ∃ bs : List Int, (∀ x ∈ bs, R8 x) ∧ bs.length ≤ 9223372036854775807 ∧ SliceAt W (.slice a len cap) .u8 bs := by
  obtain ⟨fuel, hf⟩ := h
  rcases open_ints Try.underlying27 Try.underlying5 (by kernel_rfl) hf with ⟨hcs, _⟩ | ⟨x, l, c, zs, hcs, hx, hl, hm, hz, _, hcell, hwz⟩
  · simp [Value.cells] at hcs
    obtain ⟨rfl, rfl, rfl⟩ := hcs
    exact ⟨[], (fun x hx => by cases hx), by decide, none, 0, rfl, Nat.le_refl _, .inl rfl⟩
  · simp [Value.cells] at hcs
    obtain ⟨rfl, rfl, rfl⟩ := hcs
    unfold maxLen at hm
    have hz : zs.length = cap := by simpa using hz
    have hlen : (zs.take len).length = len := by simp; omega
    refine ⟨zs.take len, fun y hy => ?_, by omega, _, cap, by rw [hlen], by omega, ?_⟩
    · have := bounds_u8 (hwz y (List.mem_of_mem_take hy))
      unfold R8; omega
    by_cases h0 : len = 0
    · exact .inl (by subst h0; simp)
    · obtain ⟨b, off, rfl, hc⟩ := ints_at hcell (by omega)
      refine .inr ⟨b, off, rfl, fun i y hi => ?_⟩
      have hil : i < len := by
        have := (List.getElem?_eq_some_iff.1 hi).1
        omega
      rw [hc i (by omega)]
      rw [List.getElem?_take_of_lt hil] at hi
      rw [List.getD_eq_getElem?_getD, hi]
      rfl

theorem drop_cut (l : List Value) (o s : Nat) : l.drop o = (l.drop o).take s ++ l.drop (o + s) := by
  have := (List.take_append_drop s (l.drop o)).symm
  rwa [List.drop_drop] at this
theorem relL_app {ρ : Rho} {l l' : List AV} {vs vs' : List Value} (h : RelL ρ l vs) (h' : RelL ρ l' vs') : RelL ρ (l ++ l') (vs ++ vs') := by
  refine ⟨by simp [h.1, h'.1], fun i x v h1 h2 => ?_⟩
  by_cases hi : i < l.length
  · rw [List.getElem?_append_left hi] at h1
    rw [List.getElem?_append_left (by rw [← h.1]; exact hi)] at h2
    exact h.2 i x v h1 h2
  · rw [List.getElem?_append_right (by omega)] at h1
    rw [List.getElem?_append_right (by rw [← h.1]; omega), ← h.1] at h2
    exact h'.2 _ x v h1 h2
theorem rel_agg {ρ : Rho} {l : List AV} {vs : List Value} (h : RelL ρ l vs) : Rel ρ (.agg l) (.agg vs.toArray) := .agg h.1 h.2

theorem four_cells {H : Type} {enc : TypeId × Value → H} {W : World} {m : Nat} {cs : List Value} {x : DataW H × List MemPlace} (h : DataW.trod enc Try.prog W 0 (fun _ => true) true m 64 cs = some x) :
    ∃ (a_0 : Option Addr) (len_0 : Nat) (cap_0 : Nat) (bs_0 : List Int) (a_1 : Option Addr) (len_1 : Nat) (cap_1 : Nat) (bs_1 : List Int) (a_2 : Option Addr) (len_2 : Nat) (cap_2 : Nat) (bs_2 : List Int) (a_3 : Option Addr) (len_3 : Nat) (cap_3 : Nat) (bs_3 : List Int), cs = [Value.slice a_0 len_0 cap_0] ++ [Value.slice a_1 len_1 cap_1] ++ [Value.slice a_2 len_2 cap_2] ++ [Value.slice a_3 len_3 cap_3] ∧ (∀ x ∈ bs_0, R8 x) ∧ bs_0.length ≤ 9223372036854775807 ∧ SliceAt W (.slice a_0 len_0 cap_0) .u8 bs_0 ∧ (∀ x ∈ bs_1, R8 x) ∧ bs_1.length ≤ 9223372036854775807 ∧ SliceAt W (.slice a_1 len_1 cap_1) .u8 bs_1 ∧ (∀ x ∈ bs_2, R8 x) ∧ bs_2.length ≤ 9223372036854775807 ∧ SliceAt W (.slice a_2 len_2 cap_2) .u8 bs_2 ∧ (∀ x ∈ bs_3, R8 x) ∧ bs_3.length ≤ 9223372036854775807 ∧ SliceAt W (.slice a_3 len_3 cap_3) .u8 bs_3 := by
  obtain ⟨xs, n, _, _, hc, hl, hel⟩ := DataW.trod_struct Try.underlying64 h
  have cN : Try.prog.cellsOf 64 = 4 := by kernel_rfl
  rw [cN] at hc
  have hl4 : xs.length = 4 := hl
  have h0 : DataW.trod enc Try.prog W 0 (fun _ => true) true n 27 ((cs.drop 0).take (Try.prog.cellsOf 27)) = xs[0]? := hel 0 _ rfl
  rw [List.getElem?_eq_getElem (by omega), show Try.prog.cellsOf 27 = 1 by kernel_rfl] at h0
  obtain ⟨a_0, len_0, cap_0, e0⟩ := slice_form Try.underlying27 h0
  rw [e0] at h0
  obtain ⟨bs_0, hb_0, hl_0, hs_0⟩ := s8_of_trod (enc := enc) (a := a_0) (len := len_0) (cap := cap_0) (d := xs[0].1) (p := xs[0].2) ⟨n, by simpa [Value.cells] using h0⟩
  have h1 : DataW.trod enc Try.prog W 0 (fun _ => true) true n 27 ((cs.drop 1).take (Try.prog.cellsOf 27)) = xs[1]? := hel 1 _ rfl
  rw [List.getElem?_eq_getElem (by omega), show Try.prog.cellsOf 27 = 1 by kernel_rfl] at h1
  obtain ⟨a_1, len_1, cap_1, e1⟩ := slice_form Try.underlying27 h1
  rw [e1] at h1
  obtain ⟨bs_1, hb_1, hl_1, hs_1⟩ := s8_of_trod (enc := enc) (a := a_1) (len := len_1) (cap := cap_1) (d := xs[1].1) (p := xs[1].2) ⟨n, by simpa [Value.cells] using h1⟩
  have h2 : DataW.trod enc Try.prog W 0 (fun _ => true) true n 27 ((cs.drop 2).take (Try.prog.cellsOf 27)) = xs[2]? := hel 2 _ rfl
  rw [List.getElem?_eq_getElem (by omega), show Try.prog.cellsOf 27 = 1 by kernel_rfl] at h2
  obtain ⟨a_2, len_2, cap_2, e2⟩ := slice_form Try.underlying27 h2
  rw [e2] at h2
  obtain ⟨bs_2, hb_2, hl_2, hs_2⟩ := s8_of_trod (enc := enc) (a := a_2) (len := len_2) (cap := cap_2) (d := xs[2].1) (p := xs[2].2) ⟨n, by simpa [Value.cells] using h2⟩
  have h3 : DataW.trod enc Try.prog W 0 (fun _ => true) true n 27 ((cs.drop 3).take (Try.prog.cellsOf 27)) = xs[3]? := hel 3 _ rfl
  rw [List.getElem?_eq_getElem (by omega), show Try.prog.cellsOf 27 = 1 by kernel_rfl] at h3
  obtain ⟨a_3, len_3, cap_3, e3⟩ := slice_form Try.underlying27 h3
  rw [e3] at h3
  obtain ⟨bs_3, hb_3, hl_3, hs_3⟩ := s8_of_trod (enc := enc) (a := a_3) (len := len_3) (cap := cap_3) (d := xs[3].1) (p := xs[3].2) ⟨n, by simpa [Value.cells] using h3⟩
  refine ⟨a_0, len_0, cap_0, bs_0, a_1, len_1, cap_1, bs_1, a_2, len_2, cap_2, bs_2, a_3, len_3, cap_3, bs_3, ?_, hb_0, hl_0, hs_0, hb_1, hl_1, hs_1, hb_2, hl_2, hs_2, hb_3, hl_3, hs_3⟩
  have sp : cs = (cs.drop 0).take 1 ++ (cs.drop 1).take 1 ++ (cs.drop 2).take 1 ++ (cs.drop 3).take 1 := by
    have hz : cs.drop 4 = [] := List.drop_eq_nil_of_le (by omega)
    have t4 : cs.drop 4 = [] := hz
    have t3 : cs.drop 3 = (cs.drop 3).take 1 := by
      have := drop_cut cs 3 1
      rwa [t4, List.append_nil] at this
    have t2 : cs.drop 2 = ((cs.drop 2).take 1 ++ (cs.drop 3).take 1) := by
      have := drop_cut cs 2 1
      rwa [t3] at this
    have t1 : cs.drop 1 = ((cs.drop 1).take 1 ++ ((cs.drop 2).take 1 ++ (cs.drop 3).take 1)) := by
      have := drop_cut cs 1 1
      rwa [t2] at this
    have t0 : cs.drop 0 = ((cs.drop 0).take 1 ++ ((cs.drop 1).take 1 ++ ((cs.drop 2).take 1 ++ (cs.drop 3).take 1))) := by
      have := drop_cut cs 0 1
      rwa [t1] at this
    rw [List.drop_zero] at t0
    refine t0.trans ?_
    simp only [List.append_assoc, List.drop_zero]
  rw [sp, e0, e1, e2, e3]
theorem four_of_trod {H : Type} {enc : TypeId × Value → H} {W : World} {base : Nat} {v : Value} {d : DataW H} {p : List MemPlace} (hv : Value.okWide Try.prog W .any base 64 v)
    (h : DataW.Trod enc Try.prog W 0 (fun _ => true) true 64 v d p) : ∃ (a_0 : Option Addr) (len_0 : Nat) (cap_0 : Nat) (bs_0 : List Int) (a_1 : Option Addr) (len_1 : Nat) (cap_1 : Nat) (bs_1 : List Int) (a_2 : Option Addr) (len_2 : Nat) (cap_2 : Nat) (bs_2 : List Int) (a_3 : Option Addr) (len_3 : Nat) (cap_3 : Nat) (bs_3 : List Int), v = .agg ([Value.slice a_0 len_0 cap_0] ++ [Value.slice a_1 len_1 cap_1] ++ [Value.slice a_2 len_2 cap_2] ++ [Value.slice a_3 len_3 cap_3]).toArray ∧ (∀ x ∈ bs_0, R8 x) ∧ bs_0.length ≤ 9223372036854775807 ∧ SliceAt W (.slice a_0 len_0 cap_0) .u8 bs_0 ∧ (∀ x ∈ bs_1, R8 x) ∧ bs_1.length ≤ 9223372036854775807 ∧ SliceAt W (.slice a_1 len_1 cap_1) .u8 bs_1 ∧ (∀ x ∈ bs_2, R8 x) ∧ bs_2.length ≤ 9223372036854775807 ∧ SliceAt W (.slice a_2 len_2 cap_2) .u8 bs_2 ∧ (∀ x ∈ bs_3, R8 x) ∧ bs_3.length ≤ 9223372036854775807 ∧ SliceAt W (.slice a_3 len_3 cap_3) .u8 bs_3 := by
  obtain ⟨cs, rfl⟩ : ∃ cs, v = .agg cs := by
    unfold Value.okWide at hv
    rw [Try.underlying64] at hv
    cases v <;> simp_all
  obtain ⟨fuel, hf⟩ := h
  obtain ⟨a_0, len_0, cap_0, bs_0, a_1, len_1, cap_1, bs_1, a_2, len_2, cap_2, bs_2, a_3, len_3, cap_3, bs_3, e, hh⟩ := four_cells hf
  simp only [Value.cells] at e
  exact ⟨a_0, len_0, cap_0, bs_0, a_1, len_1, cap_1, bs_1, a_2, len_2, cap_2, bs_2, a_3, len_3, cap_3, bs_3, by rw [← e], hh⟩

end Go.Proofs.Ytddnfcgbfpbagaa
