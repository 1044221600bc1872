/- Own: how arguments of layer 8 are opened (no statement is proved here). -/
import Derived.Test.YtdeobbgkfhnhlaaL0
namespace Go.Proofs.Ytdeobbgkfhnhlaa
open Go.ChangeShapes Go.WideShapes Go.ChangeAt Go.RowKit Go.Joins Ab
set_option maxRecDepth 4000
theorem a16_of_trod {H : Type} {enc : TypeId × Value → H} {W : World} {base : Nat} {v : Value} {d : DataW H} {p : List MemPlace} (hv : Value.okWide Try.prog W .any base 22 v)
    (h : DataW.Trod enc Try.prog W 0 (fun _ => true) true 22 v d p) : ∃ f : Nat → Int, v = .agg (ar8 16 f).toArray ∧ ∀ i, i < 16 → R8 (f i) := by
  obtain ⟨cs, rfl⟩ : ∃ cs, v = .agg cs := by
    unfold Value.okWide at hv
    rw [Try.underlying22] at hv
    cases v <;> simp_all
  obtain ⟨fuel, hf⟩ := h
  obtain ⟨xs, m, _, ex, hc, hl, hel⟩ := DataW.trod_array Try.underlying22 hf
  have c5 : Try.prog.cellsOf 5 = 1 := by kernel_rfl
  have c16 : Try.prog.cellsOf 22 = 16 := by kernel_rfl
  rw [c16] at hc
  simp only [Value.cells] at hc hel
  have hcl : cs.toList.length = 16 := by simpa using hc
  have key : ∀ r, r < 16 → ∃ z : Int, cs.toList[r]? = some (.int .u8 z) ∧ R8 z := by
    intro r hr
    have hE := hel r hr
    rw [c5, Nat.mul_one, List.getElem?_eq_getElem (by omega)] at hE
    obtain ⟨z, e1, _, wz⟩ := DataW.trod_int Try.underlying5 hE
    have bz := bounds_u8 wz
    have h0 : ((cs.toList.drop r).take 1)[0]? = some (.int .u8 z) := by rw [e1]; rfl
    exact ⟨z, by simpa using h0, by unfold R8; omega⟩
  refine ⟨fun i => match cs.toList[i]? with | some (.int _ z) => z | _ => 0, ?_, fun i hi => ?_⟩
  · congr 1
    apply Array.ext'
    apply List.ext_getElem?
    intro i
    by_cases hi : i < 16
    · obtain ⟨z, hz, _⟩ := key i hi
      simp only [ar8, List.getElem?_map, List.getElem?_range hi, Option.map_some]
      rw [hz]
    · rw [List.getElem?_eq_none (by omega), List.getElem?_eq_none (by simp [ar8]; omega)]
  · obtain ⟨z, hz, hr⟩ := key i hi
    simp only [hz]; exact hr

theorem s8_of_trod {H : Type} {enc : TypeId × Value → H} {W : World} {a : Option Addr} {len cap : Nat} {d : DataW H} {p : List MemPlace}
    (h : DataW.Trod enc Try.prog W 0 (fun _ => true) true 23 (.slice a len cap) d p) : ∃ bs : List Int, (∀ x ∈ bs, R8 x) ∧ bs.length ≤ 9223372036854775807 ∧ SliceAt W (.slice a len cap) .u8 bs := by
  obtain ⟨fuel, hf⟩ := h
  rcases open_ints Try.underlying23 Try.underlying5 (by kernel_rfl) hf with ⟨hcs, _⟩ | ⟨x, l, c, zs, hcs, hx, hl, hm, hz, _, hcell, hwz⟩
  · simp [Value.cells] at hcs
    obtain ⟨rfl, rfl, rfl⟩ := hcs
    exact ⟨[], (fun x hx => by cases hx), by decide, none, 0, rfl, Nat.le_refl _, .inl rfl⟩
  · simp [Value.cells] at hcs
    obtain ⟨rfl, rfl, rfl⟩ := hcs
    unfold maxLen at hm
    have hz : zs.length = cap := by simpa using hz
    have hlen : (zs.take len).length = len := by simp; omega
    refine ⟨zs.take len, fun y hy => ?_, by omega, _, cap, by rw [hlen], by omega, ?_⟩
    · have := bounds_u8 (hwz y (List.mem_of_mem_take hy))
      unfold R8; omega
    by_cases h0 : len = 0
    · exact .inl (by subst h0; simp)
    · obtain ⟨b, off, rfl, hc⟩ := ints_at hcell (by omega)
      refine .inr ⟨b, off, rfl, fun i y hi => ?_⟩
      have hil : i < len := by
        have := (List.getElem?_eq_some_iff.1 hi).1
        omega
      rw [hc i (by omega)]
      rw [List.getElem?_take_of_lt hil] at hi
      rw [List.getD_eq_getElem?_getD, hi]
      rfl

end Go.Proofs.Ytdeobbgkfhnhlaa
