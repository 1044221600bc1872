/- Own: how an argument that is a block of sixteen bytes is opened (no statement is proved here). -/
import Derived.Test.YtkinogfolggaoaaL0
namespace Go.Proofs.Ytkinogfolggaoaa
open Go.ChangeShapes Go.WideShapes Go.ChangeAt Go.RowKit Go.Joins Ab
set_option maxRecDepth 4000
theorem a16_of_trod {H : Type} {enc : TypeId × Value → H} {W : World} {base : Nat} {v : Value} {d : DataW H} {p : List MemPlace} (hv : Value.okWide Try.prog W .any base 22 v)
    (h : DataW.Trod enc Try.prog W 0 (fun _ => true) true 22 v d p) : ∃ f : Nat → Int, v = .agg (ar8 16 f).toArray ∧ ∀ i, i < 16 → R8 (f i) := by
  obtain ⟨cs, rfl⟩ : ∃ cs, v = .agg cs := by
    unfold Value.okWide at hv
    rw [Try.underlying22] at hv
    cases v <;> simp_all
  obtain ⟨fuel, hf⟩ := h
  obtain ⟨xs, m, _, ex, hc, hl, hel⟩ := DataW.trod_array Try.underlying22 hf
  have c5 : Try.prog.cellsOf 5 = 1 := by kernel_rfl
  have c16 : Try.prog.cellsOf 22 = 16 := by kernel_rfl
  rw [c16] at hc
  simp only [Value.cells] at hc hel
  have hcl : cs.toList.length = 16 := by simpa using hc
  have key : ∀ r, r < 16 → ∃ z : Int, cs.toList[r]? = some (.int .u8 z) ∧ R8 z := by
    intro r hr
    have hE := hel r hr
    rw [c5, Nat.mul_one, List.getElem?_eq_getElem (by omega)] at hE
    obtain ⟨z, e1, _, wz⟩ := DataW.trod_int Try.underlying5 hE
    have bz := bounds_u8 wz
    have h0 : ((cs.toList.drop r).take 1)[0]? = some (.int .u8 z) := by rw [e1]; rfl
    exact ⟨z, by simpa using h0, by unfold R8; omega⟩
  refine ⟨fun i => match cs.toList[i]? with | some (.int _ z) => z | _ => 0, ?_, fun i hi => ?_⟩
  · congr 1
    apply Array.ext'
    apply List.ext_getElem?
    intro i
    by_cases hi : i < 16
    · obtain ⟨z, hz, _⟩ := key i hi
      simp only [ar8, List.getElem?_map, List.getElem?_range hi, Option.map_some]
      rw [hz]
    · rw [List.getElem?_eq_none (by omega), List.getElem?_eq_none (by simp [ar8]; omega)]
  · obtain ⟨z, hz, hr⟩ := key i hi
    simp only [hz]; exact hr

end Go.Proofs.Ytkinogfolggaoaa
