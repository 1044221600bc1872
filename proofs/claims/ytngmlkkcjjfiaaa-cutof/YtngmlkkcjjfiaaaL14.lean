/- Own: how arguments of layer 14 are opened (no statement is proved here). -/
import Derived.Test.YtngmlkkcjjfiaaaL0
namespace Go.Proofs.Ytngmlkkcjjfiaaa
open Go.ChangeShapes Go.WideShapes Go.ChangeAt Go.RowKit Go.Joins Ab
set_option maxRecDepth 4000
set_option linter.unusedSimpArgs false
theorem s8_of_trod {H : Type} {enc : TypeId × Value → H} {W : World} {a : Option Addr} {len cap : Nat} {d : DataW H} {p : List MemPlace}
    (h : DataW.Trod enc Try.prog W 0 (fun _ => true) true 37 (.slice a len cap) d p) : ∃ bs : List Int, (∀ x ∈ bs, R8 x) ∧ bs.length ≤ 9223372036854775807 ∧ SliceAt W (.slice a len cap) .u8 bs := by
  obtain ⟨fuel, hf⟩ := h
  rcases open_ints Try.underlying37 Try.underlying5 (by kernel_rfl) hf with ⟨hcs, _⟩ | ⟨x, l, c, zs, hcs, hx, hl, hm, hz, _, hcell, hwz⟩
  · simp [Value.cells] at hcs
    obtain ⟨rfl, rfl, rfl⟩ := hcs
    exact ⟨[], (fun x hx => by cases hx), by decide, none, 0, rfl, Nat.le_refl _, .inl rfl⟩
  · simp [Value.cells] at hcs
    obtain ⟨rfl, rfl, rfl⟩ := hcs
    unfold maxLen at hm
    have hz : zs.length = cap := by simpa using hz
    have hlen : (zs.take len).length = len := by simp; omega
    refine ⟨zs.take len, fun y hy => ?_, by omega, _, cap, by rw [hlen], by omega, ?_⟩
    · have := bounds_u8 (hwz y (List.mem_of_mem_take hy))
      unfold R8; omega
    by_cases h0 : len = 0
    · exact .inl (by subst h0; simp)
    · obtain ⟨b, off, rfl, hc⟩ := ints_at hcell (by omega)
      refine .inr ⟨b, off, rfl, fun i y hi => ?_⟩
      have hil : i < len := by
        have := (List.getElem?_eq_some_iff.1 hi).1
        omega
      rw [hc i (by omega)]
      rw [List.getElem?_take_of_lt hil] at hi
      rw [List.getD_eq_getElem?_getD, hi]
      rfl

theorem drop_cut (l : List Value) (o s : Nat) : l.drop o = (l.drop o).take s ++ l.drop (o + s) := by
  have := (List.take_append_drop s (l.drop o)).symm
  rwa [List.drop_drop] at this
theorem relL_app {ρ : Rho} {l l' : List AV} {vs vs' : List Value} (h : RelL ρ l vs) (h' : RelL ρ l' vs') : RelL ρ (l ++ l') (vs ++ vs') := by
  refine ⟨by simp [h.1, h'.1], fun i x v h1 h2 => ?_⟩
  by_cases hi : i < l.length
  · rw [List.getElem?_append_left hi] at h1
    rw [List.getElem?_append_left (by rw [← h.1]; exact hi)] at h2
    exact h.2 i x v h1 h2
  · rw [List.getElem?_append_right (by omega)] at h1
    rw [List.getElem?_append_right (by rw [← h.1]; omega), ← h.1] at h2
    exact h'.2 _ x v h1 h2
theorem rel_agg {ρ : Rho} {l : List AV} {vs : List Value} (h : RelL ρ l vs) : Rel ρ (.agg l) (.agg vs.toArray) := .agg h.1 h.2

theorem sides_cells {H : Type} {enc : TypeId × Value → H} {W : World} {m : Nat} {cs : List Value} {x : DataW H × List MemPlace} (h : DataW.trod enc Try.prog W 0 (fun _ => true) true m 47 cs = some x) :
    ∃ (a_0 : Option Addr) (len_0 : Nat) (cap_0 : Nat) (bs_0 : List Int) (n_1 : Int) (n_2 : Int) (n_3 : Int), cs = [Value.slice a_0 len_0 cap_0] ++ [Value.int .u8 n_1] ++ [Value.int .u8 n_2] ++ [Value.int .u8 n_3] ∧ (∀ x ∈ bs_0, R8 x) ∧ bs_0.length ≤ 9223372036854775807 ∧ SliceAt W (.slice a_0 len_0 cap_0) .u8 bs_0 ∧ (Lit.int .u8 n_1).wf = true ∧ (Lit.int .u8 n_2).wf = true ∧ (Lit.int .u8 n_3).wf = true := by
  obtain ⟨xs, n, _, _, hc, hl, hel⟩ := DataW.trod_struct Try.underlying47 h
  have cN : Try.prog.cellsOf 47 = 4 := by kernel_rfl
  rw [cN] at hc
  have hl4 : xs.length = 4 := hl
  have h0 : DataW.trod enc Try.prog W 0 (fun _ => true) true n 37 ((cs.drop 0).take (Try.prog.cellsOf 37)) = xs[0]? := hel 0 _ rfl
  rw [List.getElem?_eq_getElem (by omega), show Try.prog.cellsOf 37 = 1 by kernel_rfl] at h0
  obtain ⟨a_0, len_0, cap_0, e0⟩ := slice_form Try.underlying37 h0
  rw [e0] at h0
  obtain ⟨bs_0, hb_0, hl_0, hs_0⟩ := s8_of_trod (enc := enc) (a := a_0) (len := len_0) (cap := cap_0) (d := xs[0].1) (p := xs[0].2) ⟨n, by simpa [Value.cells] using h0⟩
  have h1 : DataW.trod enc Try.prog W 0 (fun _ => true) true n 5 ((cs.drop 1).take (Try.prog.cellsOf 5)) = xs[1]? := hel 1 _ rfl
  rw [List.getElem?_eq_getElem (by omega), show Try.prog.cellsOf 5 = 1 by kernel_rfl] at h1
  obtain ⟨n_1, e1, _, w_1⟩ := DataW.trod_int Try.underlying5 h1
  have h2 : DataW.trod enc Try.prog W 0 (fun _ => true) true n 5 ((cs.drop 2).take (Try.prog.cellsOf 5)) = xs[2]? := hel 2 _ rfl
  rw [List.getElem?_eq_getElem (by omega), show Try.prog.cellsOf 5 = 1 by kernel_rfl] at h2
  obtain ⟨n_2, e2, _, w_2⟩ := DataW.trod_int Try.underlying5 h2
  have h3 : DataW.trod enc Try.prog W 0 (fun _ => true) true n 5 ((cs.drop 3).take (Try.prog.cellsOf 5)) = xs[3]? := hel 3 _ rfl
  rw [List.getElem?_eq_getElem (by omega), show Try.prog.cellsOf 5 = 1 by kernel_rfl] at h3
  obtain ⟨n_3, e3, _, w_3⟩ := DataW.trod_int Try.underlying5 h3
  refine ⟨a_0, len_0, cap_0, bs_0, n_1, n_2, n_3, ?_, hb_0, hl_0, hs_0, w_1, w_2, w_3⟩
  have sp : cs = (cs.drop 0).take 1 ++ (cs.drop 1).take 1 ++ (cs.drop 2).take 1 ++ (cs.drop 3).take 1 := by
    have hz : cs.drop 4 = [] := List.drop_eq_nil_of_le (by omega)
    have t4 : cs.drop 4 = [] := hz
    have t3 : cs.drop 3 = (cs.drop 3).take 1 := by
      have := drop_cut cs 3 1
      rwa [t4, List.append_nil] at this
    have t2 : cs.drop 2 = ((cs.drop 2).take 1 ++ (cs.drop 3).take 1) := by
      have := drop_cut cs 2 1
      rwa [t3] at this
    have t1 : cs.drop 1 = ((cs.drop 1).take 1 ++ ((cs.drop 2).take 1 ++ (cs.drop 3).take 1)) := by
      have := drop_cut cs 1 1
      rwa [t2] at this
    have t0 : cs.drop 0 = ((cs.drop 0).take 1 ++ ((cs.drop 1).take 1 ++ ((cs.drop 2).take 1 ++ (cs.drop 3).take 1))) := by
      have := drop_cut cs 0 1
      rwa [t1] at this
    rw [List.drop_zero] at t0
    refine t0.trans ?_
    simp only [List.append_assoc, List.drop_zero]
  rw [sp, e0, e1, e2, e3]
theorem sides_of_trod {H : Type} {enc : TypeId × Value → H} {W : World} {base : Nat} {v : Value} {d : DataW H} {p : List MemPlace} (hv : Value.okWide Try.prog W .any base 47 v)
    (h : DataW.Trod enc Try.prog W 0 (fun _ => true) true 47 v d p) : ∃ (a_0 : Option Addr) (len_0 : Nat) (cap_0 : Nat) (bs_0 : List Int) (n_1 : Int) (n_2 : Int) (n_3 : Int), v = .agg ([Value.slice a_0 len_0 cap_0] ++ [Value.int .u8 n_1] ++ [Value.int .u8 n_2] ++ [Value.int .u8 n_3]).toArray ∧ (∀ x ∈ bs_0, R8 x) ∧ bs_0.length ≤ 9223372036854775807 ∧ SliceAt W (.slice a_0 len_0 cap_0) .u8 bs_0 ∧ (Lit.int .u8 n_1).wf = true ∧ (Lit.int .u8 n_2).wf = true ∧ (Lit.int .u8 n_3).wf = true := by
  obtain ⟨cs, rfl⟩ : ∃ cs, v = .agg cs := by
    unfold Value.okWide at hv
    rw [Try.underlying47] at hv
    cases v <;> simp_all
  obtain ⟨fuel, hf⟩ := h
  obtain ⟨a_0, len_0, cap_0, bs_0, n_1, n_2, n_3, e, hh⟩ := sides_cells hf
  simp only [Value.cells] at e
  exact ⟨a_0, len_0, cap_0, bs_0, n_1, n_2, n_3, by rw [← e], hh⟩

end Go.Proofs.Ytngmlkkcjjfiaaa
