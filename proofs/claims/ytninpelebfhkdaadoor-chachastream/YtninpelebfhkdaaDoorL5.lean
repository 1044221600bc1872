/- Own: how arguments of layer 5 are opened, and what the listed variable gives (no statement is proved here). -/
import Derived.Test.YtninpelebfhkdaaDoorL0
import Derived.Test.YtninpelebfhkdaaDoorC3
import Derived.Test.YtninpelebfhkdaaDoorTie
import Derived.Test.YtninpelebfhkdaaDoorCards
import Derived.Stop.Joined
import Derived.SevenTiedAt
import Derived.LaidMore
namespace Go.Proofs.YtninpelebfhkdaaDoor
open Go.ChangeShapes Go.WideShapes Go.ChangeAt Go.RowKit Go.Joins Ab
set_option maxRecDepth 4000
/-- The variable, as the rows list it. -/
def lay1 : List (String × DataW Unit) := [("wringer/chacha.letters", Rows.laid_wringer_chacha_letters)]
theorem gLet : Tryd.prog.globalNamed "wringer/chacha.letters" = some 1 := by kernel_rfl
theorem tLet : (Tryd.prog.globals[1]?).map (·.type) = some 94 := by kernel_rfl
theorem door_met (os : Os) (args : Array Value) : laidMetH Tryd.prog lay1 ((World.doorLaid Tryd.prog 400 os).forCall (fun _ _ => 0) ⟨#[], args, []⟩).memory :=
  laidMetH_of_parts3 (fuel := 8) (laidMet_of_run' 8 (by kernel_rfl) (by kernel_rfl)) (by kernel_rfl) (by kernel_rfl)
theorem lit_cell {H : Type} {enc : TypeId × Value → H} {W : World} {sp : Nat → Bool} {hd : Bool} {m : Nat} {cs : List Value} {ds : List (DataW H)} {p : List MemPlace} (h : DataW.trod enc Tryd.prog W 0 sp hd m 94 cs = some (.agg ds, p)) (r : Nat) (hr : r < 4) (a : Int) (ha : ds[r]? = some (.lit (.int .u32 a))) : cs[r]? = some (.int .u32 a) := by
  obtain ⟨xs, m1, _, ex, _, hl, hel⟩ := DataW.trod_array Tryd.underlying94 h
  have c5 : Tryd.prog.cellsOf 71 = 1 := by kernel_rfl
  have hE := hel r hr
  rw [c5, Nat.mul_one, List.getElem?_eq_getElem (by omega)] at hE
  obtain ⟨k, e1, e2, _⟩ := DataW.trod_int Tryd.underlying71 hE
  have h1 : ds = xs.map (·.1) := by cases ex; rfl
  rw [h1, List.getElem?_map, List.getElem?_eq_getElem (by omega), e2] at ha
  have hk : k = a := by simpa using ha
  subst hk
  have h0 : ((cs.drop r).take 1)[0]? = some (.int .u32 k) := by rw [e1]; rfl
  simpa using h0
/-- The letters lie where the program's text lays them. -/
def Laid (W : World) : Prop := ∀ i v, (lets.map (Value.int .u32))[i]? = some v → W.cell? ⟨1, i, none⟩ = some v
theorem laid_of {W : World} (h : laidMetH Tryd.prog lay1 W) : Laid W := by
  rw [MakeChecks.laidMetH_plain _ _ _ (by kernel_rfl)] at h
  obtain ⟨ps, ⟨g0, t0, cs0, f0, p0, q0, hg0, ht0, hv0, hd0, _, _⟩, _, _⟩ := h
  obtain rfl := Option.some.inj (gLet.symm.trans hg0)
  obtain rfl := Option.some.inj (tLet.symm.trans ht0)
  unfold Rows.laid_wringer_chacha_letters at hd0
  intro i v hi
  refine (World.var?_cell hg0 hv0 i).trans ?_
  have hlt : i < 4 := by have := (List.getElem?_eq_some_iff.1 hi).1; simpa [lets] using this
  match i, hlt with
  | 0, _ => have e := lit_cell hd0 0 (by decide) _ rfl; cases hi; simpa using e
  | 1, _ => have e := lit_cell hd0 1 (by decide) _ rfl; cases hi; simpa using e
  | 2, _ => have e := lit_cell hd0 2 (by decide) _ rfl; cases hi; simpa using e
  | 3, _ => have e := lit_cell hd0 3 (by decide) _ rfl; cases hi; simpa using e
theorem laid_letters {W : World} (h : laidMetH Tryd.prog lay1 W) : lets.map (Value.int .u32) ≠ [] ∧ ∀ i v, (lets.map (Value.int .u32))[i]? = some v → W.cell? ⟨1, i, none⟩ = some v := ⟨by simp [lets], laid_of h⟩
theorem a32_of_trod {H : Type} {enc : TypeId × Value → H} {W : World} {base : Nat} {v : Value} {d : DataW H} {p : List MemPlace} (hv : Value.okWide Tryd.prog W .any base 22 v)
    (h : DataW.Trod enc Tryd.prog W 0 (fun _ => true) true 22 v d p) : ∃ f : Nat → Int, v = .agg (ar8 32 f).toArray ∧ ∀ i, i < 32 → R8 (f i) := by
  obtain ⟨cs, rfl⟩ : ∃ cs, v = .agg cs := by
    unfold Value.okWide at hv
    rw [Tryd.underlying22] at hv
    cases v <;> simp_all
  obtain ⟨fuel, hf⟩ := h
  obtain ⟨xs, m, _, ex, hc, hl, hel⟩ := DataW.trod_array Tryd.underlying22 hf
  have c5 : Tryd.prog.cellsOf 5 = 1 := by kernel_rfl
  have c16 : Tryd.prog.cellsOf 22 = 32 := by kernel_rfl
  rw [c16] at hc
  simp only [Value.cells] at hc hel
  have hcl : cs.toList.length = 32 := by simpa using hc
  have key : ∀ r, r < 32 → ∃ z : Int, cs.toList[r]? = some (.int .u8 z) ∧ R8 z := by
    intro r hr
    have hE := hel r hr
    rw [c5, Nat.mul_one, List.getElem?_eq_getElem (by omega)] at hE
    obtain ⟨z, e1, _, wz⟩ := DataW.trod_int Tryd.underlying5 hE
    have bz := bounds_u8 wz
    have h0 : ((cs.toList.drop r).take 1)[0]? = some (.int .u8 z) := by rw [e1]; rfl
    exact ⟨z, by simpa using h0, by unfold R8; omega⟩
  refine ⟨fun i => match cs.toList[i]? with | some (.int _ z) => z | _ => 0, ?_, fun i hi => ?_⟩
  · congr 1
    apply Array.ext'
    apply List.ext_getElem?
    intro i
    by_cases hi : i < 32
    · obtain ⟨z, hz, _⟩ := key i hi
      simp only [ar8, List.getElem?_map, List.getElem?_range hi, Option.map_some]
      rw [hz]
    · rw [List.getElem?_eq_none (by omega), List.getElem?_eq_none (by simp [ar8]; omega)]
  · obtain ⟨z, hz, hr⟩ := key i hi
    simp only [hz]; exact hr

theorem a16_of_trod {H : Type} {enc : TypeId × Value → H} {W : World} {base : Nat} {v : Value} {d : DataW H} {p : List MemPlace} (hv : Value.okWide Tryd.prog W .any base 33 v)
    (h : DataW.Trod enc Tryd.prog W 0 (fun _ => true) true 33 v d p) : ∃ f : Nat → Int, v = .agg (ar8 16 f).toArray ∧ ∀ i, i < 16 → R8 (f i) := by
  obtain ⟨cs, rfl⟩ : ∃ cs, v = .agg cs := by
    unfold Value.okWide at hv
    rw [Tryd.underlying33] at hv
    cases v <;> simp_all
  obtain ⟨fuel, hf⟩ := h
  obtain ⟨xs, m, _, ex, hc, hl, hel⟩ := DataW.trod_array Tryd.underlying33 hf
  have c5 : Tryd.prog.cellsOf 5 = 1 := by kernel_rfl
  have c16 : Tryd.prog.cellsOf 33 = 16 := by kernel_rfl
  rw [c16] at hc
  simp only [Value.cells] at hc hel
  have hcl : cs.toList.length = 16 := by simpa using hc
  have key : ∀ r, r < 16 → ∃ z : Int, cs.toList[r]? = some (.int .u8 z) ∧ R8 z := by
    intro r hr
    have hE := hel r hr
    rw [c5, Nat.mul_one, List.getElem?_eq_getElem (by omega)] at hE
    obtain ⟨z, e1, _, wz⟩ := DataW.trod_int Tryd.underlying5 hE
    have bz := bounds_u8 wz
    have h0 : ((cs.toList.drop r).take 1)[0]? = some (.int .u8 z) := by rw [e1]; rfl
    exact ⟨z, by simpa using h0, by unfold R8; omega⟩
  refine ⟨fun i => match cs.toList[i]? with | some (.int _ z) => z | _ => 0, ?_, fun i hi => ?_⟩
  · congr 1
    apply Array.ext'
    apply List.ext_getElem?
    intro i
    by_cases hi : i < 16
    · obtain ⟨z, hz, _⟩ := key i hi
      simp only [ar8, List.getElem?_map, List.getElem?_range hi, Option.map_some]
      rw [hz]
    · rw [List.getElem?_eq_none (by omega), List.getElem?_eq_none (by simp [ar8]; omega)]
  · obtain ⟨z, hz, hr⟩ := key i hi
    simp only [hz]; exact hr

theorem w16_of_trod {H : Type} {enc : TypeId × Value → H} {W : World} {base : Nat} {v : Value} {d : DataW H} {p : List MemPlace} (hv : Value.okWide Tryd.prog W .any base 72 v)
    (h : DataW.Trod enc Tryd.prog W 0 (fun _ => true) true 72 v d p) : ∃ f : Nat → Int, v = .agg (ar32 16 f).toArray ∧ ∀ i, i < 16 → R32 (f i) := by
  obtain ⟨cs, rfl⟩ : ∃ cs, v = .agg cs := by
    unfold Value.okWide at hv
    rw [Tryd.underlying72] at hv
    cases v <;> simp_all
  obtain ⟨fuel, hf⟩ := h
  obtain ⟨xs, m, _, ex, hc, hl, hel⟩ := DataW.trod_array Tryd.underlying72 hf
  have c5 : Tryd.prog.cellsOf 71 = 1 := by kernel_rfl
  have c16 : Tryd.prog.cellsOf 72 = 16 := by kernel_rfl
  rw [c16] at hc
  simp only [Value.cells] at hc hel
  have hcl : cs.toList.length = 16 := by simpa using hc
  have key : ∀ r, r < 16 → ∃ z : Int, cs.toList[r]? = some (.int .u32 z) ∧ R32 z := by
    intro r hr
    have hE := hel r hr
    rw [c5, Nat.mul_one, List.getElem?_eq_getElem (by omega)] at hE
    obtain ⟨z, e1, _, wz⟩ := DataW.trod_int Tryd.underlying71 hE
    have bz := bounds_u32 wz
    have h0 : ((cs.toList.drop r).take 1)[0]? = some (.int .u32 z) := by rw [e1]; rfl
    exact ⟨z, by simpa using h0, by unfold R32; omega⟩
  refine ⟨fun i => match cs.toList[i]? with | some (.int _ z) => z | _ => 0, ?_, fun i hi => ?_⟩
  · congr 1
    apply Array.ext'
    apply List.ext_getElem?
    intro i
    by_cases hi : i < 16
    · obtain ⟨z, hz, _⟩ := key i hi
      simp only [ar32, List.getElem?_map, List.getElem?_range hi, Option.map_some]
      rw [hz]
    · rw [List.getElem?_eq_none (by omega), List.getElem?_eq_none (by simp [ar32]; omega)]
  · obtain ⟨z, hz, hr⟩ := key i hi
    simp only [hz]; exact hr

theorem s8_of_trod {H : Type} {enc : TypeId × Value → H} {W : World} {a : Option Addr} {len cap : Nat} {d : DataW H} {p : List MemPlace}
    (h : DataW.Trod enc Tryd.prog W 0 (fun _ => true) true 24 (.slice a len cap) d p) : ∃ bs : List Int, (∀ x ∈ bs, R8 x) ∧ bs.length ≤ 9223372036854775807 ∧ SliceAt W (.slice a len cap) .u8 bs := by
  obtain ⟨fuel, hf⟩ := h
  rcases open_ints Tryd.underlying24 Tryd.underlying5 (by kernel_rfl) hf with ⟨hcs, _⟩ | ⟨x, l, c, zs, hcs, hx, hl, hm, hz, _, hcell, hwz⟩
  · simp [Value.cells] at hcs
    obtain ⟨rfl, rfl, rfl⟩ := hcs
    exact ⟨[], (fun x hx => by cases hx), by decide, none, 0, rfl, Nat.le_refl _, .inl rfl⟩
  · simp [Value.cells] at hcs
    obtain ⟨rfl, rfl, rfl⟩ := hcs
    unfold maxLen at hm
    have hz : zs.length = cap := by simpa using hz
    have hlen : (zs.take len).length = len := by simp; omega
    refine ⟨zs.take len, fun y hy => ?_, by omega, _, cap, by rw [hlen], by omega, ?_⟩
    · have := bounds_u8 (hwz y (List.mem_of_mem_take hy))
      unfold R8; omega
    by_cases h0 : len = 0
    · exact .inl (by subst h0; simp)
    · obtain ⟨b, off, rfl, hc⟩ := ints_at hcell (by omega)
      refine .inr ⟨b, off, rfl, fun i y hi => ?_⟩
      have hil : i < len := by
        have := (List.getElem?_eq_some_iff.1 hi).1
        omega
      rw [hc i (by omega)]
      rw [List.getElem?_take_of_lt hil] at hi
      rw [List.getD_eq_getElem?_getD, hi]
      rfl

end Go.Proofs.YtninpelebfhkdaaDoor
