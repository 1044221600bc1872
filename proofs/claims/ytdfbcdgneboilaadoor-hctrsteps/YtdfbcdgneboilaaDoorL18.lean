/- Own: how arguments of layer 18 are opened, and what the listed variables give (no statement is proved here). -/
import Derived.Test.YtdfbcdgneboilaaDoorL0
import Derived.Test.YtdfbcdgneboilaaDoorT1
import Derived.Test.YtdfbcdgneboilaaDoorOL
namespace Go.Proofs.YtdfbcdgneboilaaDoor
open Go.ChangeShapes Go.WideShapes Go.ChangeAt Go.RowKit Go.Joins Ab
set_option maxRecDepth 20000
set_option linter.unusedSimpArgs false
def lay1 : List (String × DataW Unit) := lay2
theorem laid_mix {W : World} (h : laidMetH Tryd.prog lay1 W) : mixL.map (Value.int .u8) ≠ [] ∧ ∀ i v, (mixL.map (Value.int .u8))[i]? = some v → W.cell? ⟨0, i, none⟩ = some v := by
  refine ⟨by decide, fun i v hi => ?_⟩
  have hlt : i < 16 := by have := (List.getElem?_eq_some_iff.1 hi).1; simpa [mixL] using this
  have e := mixL_at (i / 4) (by omega) (i % 4) (by omega)
  rw [show i / 4 * 4 + i % 4 = i by omega] at e
  rw [List.getElem?_map, e] at hi
  cases hi
  have := (laid_of h (i / 4) (i % 4) (by omega) (by omega)).1
  rwa [show i / 4 * 4 + i % 4 = i by omega] at this
theorem laid_unm {W : World} (h : laidMetH Tryd.prog lay1 W) : unmL.map (Value.int .u8) ≠ [] ∧ ∀ i v, (unmL.map (Value.int .u8))[i]? = some v → W.cell? ⟨1, i, none⟩ = some v := by
  refine ⟨by decide, fun i v hi => ?_⟩
  have hlt : i < 16 := by have := (List.getElem?_eq_some_iff.1 hi).1; simpa [unmL] using this
  have e := unmL_at (i / 4) (by omega) (i % 4) (by omega)
  rw [show i / 4 * 4 + i % 4 = i by omega] at e
  rw [List.getElem?_map, e] at hi
  cases hi
  have := (laid_of h (i / 4) (i % 4) (by omega) (by omega)).2
  rwa [show i / 4 * 4 + i % 4 = i by omega] at this
theorem s8_of_trod {H : Type} {enc : TypeId × Value → H} {W : World} {a : Option Addr} {len cap : Nat} {d : DataW H} {p : List MemPlace}
    (h : DataW.Trod enc Tryd.prog W 0 (fun _ => true) true 22 (.slice a len cap) d p) : ∃ bs : List Int, (∀ x ∈ bs, R8 x) ∧ bs.length ≤ 9223372036854775807 ∧ SliceAt W (.slice a len cap) .u8 bs := by
  obtain ⟨fuel, hf⟩ := h
  rcases open_ints Tryd.underlying22 Tryd.underlying5 (by kernel_rfl) hf with ⟨hcs, _⟩ | ⟨x, l, c, zs, hcs, hx, hl, hm, hz, _, hcell, hwz⟩
  · simp [Value.cells] at hcs
    obtain ⟨rfl, rfl, rfl⟩ := hcs
    exact ⟨[], (fun x hx => by cases hx), by decide, none, 0, rfl, Nat.le_refl _, .inl rfl⟩
  · simp [Value.cells] at hcs
    obtain ⟨rfl, rfl, rfl⟩ := hcs
    unfold maxLen at hm
    have hz : zs.length = cap := by simpa using hz
    have hlen : (zs.take len).length = len := by simp; omega
    refine ⟨zs.take len, fun y hy => ?_, by omega, _, cap, by rw [hlen], by omega, ?_⟩
    · have := bounds_u8 (hwz y (List.mem_of_mem_take hy))
      unfold R8; omega
    by_cases h0 : len = 0
    · exact .inl (by subst h0; simp)
    · obtain ⟨b, off, rfl, hc⟩ := ints_at hcell (by omega)
      refine .inr ⟨b, off, rfl, fun i y hi => ?_⟩
      have hil : i < len := by
        have := (List.getElem?_eq_some_iff.1 hi).1
        omega
      rw [hc i (by omega)]
      rw [List.getElem?_take_of_lt hil] at hi
      rw [List.getD_eq_getElem?_getD, hi]
      rfl

theorem drop_cut (l : List Value) (o s : Nat) : l.drop o = (l.drop o).take s ++ l.drop (o + s) := by
  have := (List.take_append_drop s (l.drop o)).symm
  rwa [List.drop_drop] at this
theorem relL_app {ρ : Rho} {l l' : List AV} {vs vs' : List Value} (h : RelL ρ l vs) (h' : RelL ρ l' vs') : RelL ρ (l ++ l') (vs ++ vs') := by
  refine ⟨by simp [h.1, h'.1], fun i x v h1 h2 => ?_⟩
  by_cases hi : i < l.length
  · rw [List.getElem?_append_left hi] at h1
    rw [List.getElem?_append_left (by rw [← h.1]; exact hi)] at h2
    exact h.2 i x v h1 h2
  · rw [List.getElem?_append_right (by omega)] at h1
    rw [List.getElem?_append_right (by rw [← h.1]; omega), ← h.1] at h2
    exact h'.2 _ x v h1 h2
theorem rel_agg {ρ : Rho} {l : List AV} {vs : List Value} (h : RelL ρ l vs) : Rel ρ (.agg l) (.agg vs.toArray) := .agg h.1 h.2

theorem a32_cells {H : Type} {enc : TypeId × Value → H} {W : World} {sp : Nat → Bool} {hd : Bool} {m : Nat} {cs : List Value} {x : DataW H × List MemPlace} (h : DataW.trod enc Tryd.prog W 0 sp hd m 34 cs = some x) : ∃ f : Nat → Int, cs = ar8 32 f ∧ ∀ i, i < 32 → R8 (f i) := by
  obtain ⟨xs, m1, _, ex, hc, hl, hel⟩ := DataW.trod_array Tryd.underlying34 h
  have c5 : Tryd.prog.cellsOf 5 = 1 := by kernel_rfl
  have c16 : Tryd.prog.cellsOf 34 = 32 := by kernel_rfl
  rw [c16] at hc
  have key : ∀ r, r < 32 → ∃ z : Int, cs[r]? = some (.int .u8 z) ∧ R8 z := by
    intro r hr
    have hE := hel r hr
    rw [c5, Nat.mul_one, List.getElem?_eq_getElem (by omega)] at hE
    obtain ⟨z, e1, _, wz⟩ := DataW.trod_int Tryd.underlying5 hE
    have bz := bounds_u8 wz
    have h0 : ((cs.drop r).take 1)[0]? = some (.int .u8 z) := by rw [e1]; rfl
    exact ⟨z, by simpa using h0, by unfold R8; omega⟩
  refine ⟨fun i => match cs[i]? with | some (.int _ z) => z | _ => 0, eq_ar8 hc fun i hi => ?_, fun i hi => ?_⟩
  · obtain ⟨z, hz, _⟩ := key i hi
    rw [hz]
  · obtain ⟨z, hz, hr⟩ := key i hi
    simp only [hz]; exact hr

theorem text18_cells {H : Type} {enc : TypeId × Value → H} {W : World} {m : Nat} {cs : List Value} {x : DataW H × List MemPlace} (h : DataW.trod enc Tryd.prog W 0 (fun _ => true) true m 36 cs = some x) :
    ∃ (f_0 : Nat → Int) (n_1 : Int) (a_2 : Option Addr) (len_2 : Nat) (cap_2 : Nat) (bs_2 : List Int) (a_3 : Option Addr) (len_3 : Nat) (cap_3 : Nat) (bs_3 : List Int), cs = ar8 32 f_0 ++ [Value.int .u8 n_1] ++ [Value.slice a_2 len_2 cap_2] ++ [Value.slice a_3 len_3 cap_3] ∧ (∀ i, i < 32 → R8 (f_0 i)) ∧ (Lit.int .u8 n_1).wf = true ∧ (∀ x ∈ bs_2, R8 x) ∧ bs_2.length ≤ 9223372036854775807 ∧ SliceAt W (.slice a_2 len_2 cap_2) .u8 bs_2 ∧ (∀ x ∈ bs_3, R8 x) ∧ bs_3.length ≤ 9223372036854775807 ∧ SliceAt W (.slice a_3 len_3 cap_3) .u8 bs_3 := by
  obtain ⟨xs, n, _, _, hc, hl, hel⟩ := DataW.trod_struct Tryd.underlying36 h
  have cN : Tryd.prog.cellsOf 36 = 35 := by kernel_rfl
  rw [cN] at hc
  have hl4 : xs.length = 4 := hl
  have h0 : DataW.trod enc Tryd.prog W 0 (fun _ => true) true n 34 ((cs.drop 0).take (Tryd.prog.cellsOf 34)) = xs[0]? := hel 0 _ rfl
  rw [List.getElem?_eq_getElem (by omega), show Tryd.prog.cellsOf 34 = 32 by kernel_rfl] at h0
  obtain ⟨f_0, e0, w_0⟩ := a32_cells h0
  have h1 : DataW.trod enc Tryd.prog W 0 (fun _ => true) true n 5 ((cs.drop 32).take (Tryd.prog.cellsOf 5)) = xs[1]? := hel 1 _ rfl
  rw [List.getElem?_eq_getElem (by omega), show Tryd.prog.cellsOf 5 = 1 by kernel_rfl] at h1
  obtain ⟨n_1, e1, _, w_1⟩ := DataW.trod_int Tryd.underlying5 h1
  have h2 : DataW.trod enc Tryd.prog W 0 (fun _ => true) true n 22 ((cs.drop 33).take (Tryd.prog.cellsOf 22)) = xs[2]? := hel 2 _ rfl
  rw [List.getElem?_eq_getElem (by omega), show Tryd.prog.cellsOf 22 = 1 by kernel_rfl] at h2
  obtain ⟨a_2, len_2, cap_2, e2⟩ := slice_form Tryd.underlying22 h2
  rw [e2] at h2
  obtain ⟨bs_2, hb_2, hl_2, hs_2⟩ := s8_of_trod (enc := enc) (a := a_2) (len := len_2) (cap := cap_2) (d := xs[2].1) (p := xs[2].2) ⟨n, by simpa [Value.cells] using h2⟩
  have h3 : DataW.trod enc Tryd.prog W 0 (fun _ => true) true n 22 ((cs.drop 34).take (Tryd.prog.cellsOf 22)) = xs[3]? := hel 3 _ rfl
  rw [List.getElem?_eq_getElem (by omega), show Tryd.prog.cellsOf 22 = 1 by kernel_rfl] at h3
  obtain ⟨a_3, len_3, cap_3, e3⟩ := slice_form Tryd.underlying22 h3
  rw [e3] at h3
  obtain ⟨bs_3, hb_3, hl_3, hs_3⟩ := s8_of_trod (enc := enc) (a := a_3) (len := len_3) (cap := cap_3) (d := xs[3].1) (p := xs[3].2) ⟨n, by simpa [Value.cells] using h3⟩
  refine ⟨f_0, n_1, a_2, len_2, cap_2, bs_2, a_3, len_3, cap_3, bs_3, ?_, w_0, w_1, hb_2, hl_2, hs_2, hb_3, hl_3, hs_3⟩
  have sp : cs = (cs.drop 0).take 32 ++ (cs.drop 32).take 1 ++ (cs.drop 33).take 1 ++ (cs.drop 34).take 1 := by
    have hz : cs.drop 35 = [] := List.drop_eq_nil_of_le (by omega)
    have t4 : cs.drop 35 = [] := hz
    have t3 : cs.drop 34 = (cs.drop 34).take 1 := by
      have := drop_cut cs 34 1
      rwa [t4, List.append_nil] at this
    have t2 : cs.drop 33 = ((cs.drop 33).take 1 ++ (cs.drop 34).take 1) := by
      have := drop_cut cs 33 1
      rwa [t3] at this
    have t1 : cs.drop 32 = ((cs.drop 32).take 1 ++ ((cs.drop 33).take 1 ++ (cs.drop 34).take 1)) := by
      have := drop_cut cs 32 1
      rwa [t2] at this
    have t0 : cs.drop 0 = ((cs.drop 0).take 32 ++ ((cs.drop 32).take 1 ++ ((cs.drop 33).take 1 ++ (cs.drop 34).take 1))) := by
      have := drop_cut cs 0 32
      rwa [t1] at this
    rw [List.drop_zero] at t0
    refine t0.trans ?_
    simp only [List.append_assoc, List.drop_zero]
  rw [sp, e0, e1, e2, e3]
theorem text18_of_trod {H : Type} {enc : TypeId × Value → H} {W : World} {base : Nat} {v : Value} {d : DataW H} {p : List MemPlace} (hv : Value.okWide Tryd.prog W .any base 36 v)
    (h : DataW.Trod enc Tryd.prog W 0 (fun _ => true) true 36 v d p) : ∃ (f_0 : Nat → Int) (n_1 : Int) (a_2 : Option Addr) (len_2 : Nat) (cap_2 : Nat) (bs_2 : List Int) (a_3 : Option Addr) (len_3 : Nat) (cap_3 : Nat) (bs_3 : List Int), v = .agg (ar8 32 f_0 ++ [Value.int .u8 n_1] ++ [Value.slice a_2 len_2 cap_2] ++ [Value.slice a_3 len_3 cap_3]).toArray ∧ (∀ i, i < 32 → R8 (f_0 i)) ∧ (Lit.int .u8 n_1).wf = true ∧ (∀ x ∈ bs_2, R8 x) ∧ bs_2.length ≤ 9223372036854775807 ∧ SliceAt W (.slice a_2 len_2 cap_2) .u8 bs_2 ∧ (∀ x ∈ bs_3, R8 x) ∧ bs_3.length ≤ 9223372036854775807 ∧ SliceAt W (.slice a_3 len_3 cap_3) .u8 bs_3 := by
  obtain ⟨cs, rfl⟩ : ∃ cs, v = .agg cs := by
    unfold Value.okWide at hv
    rw [Tryd.underlying36] at hv
    cases v <;> simp_all
  obtain ⟨fuel, hf⟩ := h
  obtain ⟨f_0, n_1, a_2, len_2, cap_2, bs_2, a_3, len_3, cap_3, bs_3, e, hh⟩ := text18_cells hf
  simp only [Value.cells] at e
  exact ⟨f_0, n_1, a_2, len_2, cap_2, bs_2, a_3, len_3, cap_3, bs_3, by rw [← e], hh⟩

end Go.Proofs.YtdfbcdgneboilaaDoor
