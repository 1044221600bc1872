/- Own: how a text of layer 5's statements is opened (no statement is proved here). -/
import Derived.Test.YtninpelebfhkdaaDoorL5
import Derived.Test.YtninpelebfhkdaaDoorBackC
namespace Go.Proofs.YtninpelebfhkdaaDoor
open Go.ChangeShapes Go.WideShapes Go.ChangeAt Go.RowKit Go.Joins Ab
set_option maxRecDepth 4000
theorem a32_cells {H : Type} {enc : TypeId × Value → H} {W : World} {sp : Nat → Bool} {hd : Bool} {m : Nat} {cs : List Value} {x : DataW H × List MemPlace} (h : DataW.trod enc Tryd.prog W 0 sp hd m 22 cs = some x) : ∃ f : Nat → Int, cs = ar8 32 f ∧ ∀ i, i < 32 → R8 (f i) := by
  obtain ⟨xs, m1, _, ex, hc, hl, hel⟩ := DataW.trod_array Tryd.underlying22 h
  have c5 : Tryd.prog.cellsOf 5 = 1 := by kernel_rfl
  have c16 : Tryd.prog.cellsOf 22 = 32 := by kernel_rfl
  rw [c16] at hc
  have key : ∀ r, r < 32 → ∃ z : Int, cs[r]? = some (.int .u8 z) ∧ R8 z := by
    intro r hr
    have hE := hel r hr
    rw [c5, Nat.mul_one, List.getElem?_eq_getElem (by omega)] at hE
    obtain ⟨z, e1, _, wz⟩ := DataW.trod_int Tryd.underlying5 hE
    have bz := bounds_u8 wz
    have h0 : ((cs.drop r).take 1)[0]? = some (.int .u8 z) := by rw [e1]; rfl
    exact ⟨z, by simpa using h0, by unfold R8; omega⟩
  refine ⟨fun i => match cs[i]? with | some (.int _ z) => z | _ => 0, eq_ar8 hc fun i hi => ?_, fun i hi => ?_⟩
  · obtain ⟨z, hz, _⟩ := key i hi
    rw [hz]
  · obtain ⟨z, hz, hr⟩ := key i hi
    simp only [hz]; exact hr
theorem a24_cells {H : Type} {enc : TypeId × Value → H} {W : World} {sp : Nat → Bool} {hd : Bool} {m : Nat} {cs : List Value} {x : DataW H × List MemPlace} (h : DataW.trod enc Tryd.prog W 0 sp hd m 23 cs = some x) : ∃ f : Nat → Int, cs = ar8 24 f ∧ ∀ i, i < 24 → R8 (f i) := by
  obtain ⟨xs, m1, _, ex, hc, hl, hel⟩ := DataW.trod_array Tryd.underlying23 h
  have c5 : Tryd.prog.cellsOf 5 = 1 := by kernel_rfl
  have c16 : Tryd.prog.cellsOf 23 = 24 := by kernel_rfl
  rw [c16] at hc
  have key : ∀ r, r < 24 → ∃ z : Int, cs[r]? = some (.int .u8 z) ∧ R8 z := by
    intro r hr
    have hE := hel r hr
    rw [c5, Nat.mul_one, List.getElem?_eq_getElem (by omega)] at hE
    obtain ⟨z, e1, _, wz⟩ := DataW.trod_int Tryd.underlying5 hE
    have bz := bounds_u8 wz
    have h0 : ((cs.drop r).take 1)[0]? = some (.int .u8 z) := by rw [e1]; rfl
    exact ⟨z, by simpa using h0, by unfold R8; omega⟩
  refine ⟨fun i => match cs[i]? with | some (.int _ z) => z | _ => 0, eq_ar8 hc fun i hi => ?_, fun i hi => ?_⟩
  · obtain ⟨z, hz, _⟩ := key i hi
    rw [hz]
  · obtain ⟨z, hz, hr⟩ := key i hi
    simp only [hz]; exact hr
theorem text_of_trod {H : Type} {enc : TypeId × Value → H} {W : World} {base : Nat} {v : Value} {d : DataW H} {p : List MemPlace} (hv : Value.okWide Tryd.prog W .any base 26 v)
    (h : DataW.Trod enc Tryd.prog W 0 (fun _ => true) true 26 v d p) : ∃ (k c : Nat → Int) (r : Int) (a : Option Addr) (len cap : Nat) (bs : List Int), v = .agg (ar8 32 k ++ ar8 24 c ++ [Value.int .i64 r, Value.slice a len cap]).toArray ∧ (∀ i, i < 32 → R8 (k i)) ∧ (∀ i, i < 24 → R8 (c i)) ∧ (-9223372036854775808 ≤ r ∧ r ≤ 9223372036854775807) ∧ (∀ x ∈ bs, R8 x) ∧ bs.length ≤ 9223372036854775807 ∧ SliceAt W (.slice a len cap) .u8 bs := by
  obtain ⟨cs, rfl⟩ : ∃ cs, v = .agg cs := by
    unfold Value.okWide at hv
    rw [Tryd.underlying26] at hv
    cases v <;> simp_all
  obtain ⟨fuel, hf⟩ := h
  obtain ⟨xs, n, _, _, hc, hl, hel⟩ := DataW.trod_struct Tryd.underlying26 hf
  have c58 : Tryd.prog.cellsOf 26 = 58 := by kernel_rfl
  have c32 : Tryd.prog.cellsOf 22 = 32 := by kernel_rfl
  have c24 : Tryd.prog.cellsOf 23 = 24 := by kernel_rfl
  have c1 : Tryd.prog.cellsOf 3 = 1 := by kernel_rfl
  have c2 : Tryd.prog.cellsOf 24 = 1 := by kernel_rfl
  rw [c58] at hc
  simp only [Value.cells] at hc hel
  have hl4 : xs.length = 4 := hl
  have h0 : DataW.trod enc Tryd.prog W 0 (fun _ => true) true n 22 ((cs.toList.drop 0).take (Tryd.prog.cellsOf 22)) = xs[0]? := hel 0 _ rfl
  have h1 : DataW.trod enc Tryd.prog W 0 (fun _ => true) true n 23 ((cs.toList.drop 32).take (Tryd.prog.cellsOf 23)) = xs[1]? := hel 1 _ rfl
  have h2 : DataW.trod enc Tryd.prog W 0 (fun _ => true) true n 3 ((cs.toList.drop 56).take (Tryd.prog.cellsOf 3)) = xs[2]? := hel 2 _ rfl
  have h3 : DataW.trod enc Tryd.prog W 0 (fun _ => true) true n 24 ((cs.toList.drop 57).take (Tryd.prog.cellsOf 24)) = xs[3]? := hel 3 _ rfl
  rw [List.getElem?_eq_getElem (by omega)] at h0 h1 h2 h3
  rw [c32] at h0
  rw [c24] at h1
  rw [c1] at h2
  rw [c2] at h3
  obtain ⟨k, e0, hk⟩ := a32_cells h0
  obtain ⟨c, e1, hcc⟩ := a24_cells h1
  obtain ⟨r, e2, _, w2⟩ := DataW.trod_int Tryd.underlying3 h2
  obtain ⟨a, len, cap, e3⟩ := slice_form Tryd.underlying24 h3
  rw [e3] at h3
  obtain ⟨bs, hb, hbl, hs⟩ := s8_of_trod (enc := enc) (a := a) (len := len) (cap := cap) (d := xs[3].1) (p := xs[3].2) ⟨n, by simpa [Value.cells] using h3⟩
  refine ⟨k, c, r, a, len, cap, bs, ?_, hk, hcc, bounds_i64 w2, hb, hbl, hs⟩
  congr 1
  apply Array.ext'
  have hlen : cs.toList.length = 58 := by simpa using hc
  have split : cs.toList = (cs.toList.drop 0).take 32 ++ ((cs.toList.drop 32).take 24 ++ ((cs.toList.drop 56).take 1 ++ (cs.toList.drop 57).take 1)) := by
    generalize cs.toList = l at *
    have s1 : l = l.take 32 ++ l.drop 32 := (List.take_append_drop 32 l).symm
    have s2 : l.drop 32 = (l.drop 32).take 24 ++ l.drop 56 := by
      have := (List.take_append_drop 24 (l.drop 32)).symm
      rwa [List.drop_drop] at this
    have s3 : l.drop 56 = (l.drop 56).take 1 ++ l.drop 57 := by
      have := (List.take_append_drop 1 (l.drop 56)).symm
      rwa [List.drop_drop] at this
    have s4 : l.drop 57 = (l.drop 57).take 1 := (List.take_of_length_le (by simp; omega)).symm
    rw [List.drop_zero]
    calc l = l.take 32 ++ l.drop 32 := s1
      _ = l.take 32 ++ ((l.drop 32).take 24 ++ l.drop 56) := by rw [← s2]
      _ = l.take 32 ++ ((l.drop 32).take 24 ++ ((l.drop 56).take 1 ++ l.drop 57)) := by rw [← s3]
      _ = _ := by rw [← s4]
  rw [split, e0, e1, e2, e3]
  simp
theorem relL_app {ρ : Rho} {l l' : List AV} {vs vs' : List Value} (h : RelL ρ l vs) (h' : RelL ρ l' vs') : RelL ρ (l ++ l') (vs ++ vs') := by
  refine ⟨by simp [h.1, h'.1], fun i x v h1 h2 => ?_⟩
  by_cases hi : i < l.length
  · rw [List.getElem?_append_left hi] at h1
    rw [List.getElem?_append_left (by rw [← h.1]; exact hi)] at h2
    exact h.2 i x v h1 h2
  · rw [List.getElem?_append_right (by omega)] at h1
    rw [List.getElem?_append_right (by rw [← h.1]; omega), ← h.1] at h2
    exact h'.2 _ x v h1 h2
theorem text_rel {ρ : Rho} {k c : Nat → Int} {r : Int} {s : Value} {n : Nat} (h : Rel ρ (.sv 0 0 n) s) : Rel ρ (txA k c r n) (.agg (ar8 32 k ++ ar8 24 c ++ [Value.int .i64 r, s]).toArray) := by
  have hr := relL_app (relL_app (relL_ex ρ (ar8 32 k)) (relL_ex ρ (ar8 24 c))) (relL_cons (.ex (.int .i64 r)) (relL_cons h relL_nil))
  exact .agg hr.1 hr.2
end Go.Proofs.YtninpelebfhkdaaDoor
