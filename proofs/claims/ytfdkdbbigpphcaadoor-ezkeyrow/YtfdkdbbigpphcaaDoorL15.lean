/- Own: how arguments of layer 15 are opened, and what the listed variables give (no statement is proved here). -/
import Derived.Test.YtfdkdbbigpphcaaDoorL0
import Derived.Test.YtfdkdbbigpphcaaDoorK4
import Derived.Test.YtfdkdbbigpphcaaDoorTU
import Derived.Test.YtfdkdbbigpphcaaDoorTie
import Derived.Test.YtfdkdbbigpphcaaDoorCards
import Derived.Stop.Joined
import Derived.SevenTiedAt
import Derived.LaidMore
namespace Go.Proofs.YtfdkdbbigpphcaaDoor
open Go.ChangeShapes Go.WideShapes Go.ChangeAt Go.RowKit Go.Joins Ab
set_option maxRecDepth 20000
set_option linter.unusedSimpArgs false
/-- The variables, as the rows list them. -/
def lay1 : List (String × DataW Unit) := [("wringer/blake.first", Rows.laid_wringer_blake_first), ("wringer/blake.rows", Rows.laid_wringer_blake_rows), ("wringer/turn.mixing", Rows.laid_wringer_turn_mixing), ("wringer/turn.unmixing", Rows.laid_wringer_turn_unmixing)]
theorem gFst : Tryd.prog.globalNamed "wringer/blake.first" = some 0 := by kernel_rfl
theorem gRws : Tryd.prog.globalNamed "wringer/blake.rows" = some 3 := by kernel_rfl
theorem gMix : Tryd.prog.globalNamed "wringer/turn.mixing" = some 1 := by kernel_rfl
theorem gUn : Tryd.prog.globalNamed "wringer/turn.unmixing" = some 2 := by kernel_rfl
theorem tFst : (Tryd.prog.globals[0]?).map (·.type) = some 100 := by kernel_rfl
theorem tRws : (Tryd.prog.globals[3]?).map (·.type) = some 70 := by kernel_rfl
theorem tMix : (Tryd.prog.globals[1]?).map (·.type) = some 126 := by kernel_rfl
theorem tUn : (Tryd.prog.globals[2]?).map (·.type) = some 126 := by kernel_rfl
theorem door_met (os : Os) (args : Array Value) : laidMetH Tryd.prog lay1 ((World.doorLaid Tryd.prog 400 os).forCall (fun _ _ => 0) ⟨#[], args, []⟩).memory :=
  laidMetH_of_parts3 (fuel := 8) (laidMet_of_run' 8 (by kernel_rfl) (by kernel_rfl)) (by kernel_rfl) (by kernel_rfl)
theorem eq_ar64 {l : List Value} {n : Nat} {s : Nat → Int} (hl : l.length = n) (h : ∀ i, i < n → l[i]? = some (.int .u64 (s i))) : l = ar64 n s := by
  apply List.ext_getElem?
  intro i
  by_cases hi : i < n
  · rw [h i hi]; unfold ar64; rw [List.getElem?_map, List.getElem?_range hi]; rfl
  · rw [List.getElem?_eq_none (by omega), List.getElem?_eq_none (by unfold ar64; simp; omega)]
theorem first_eq {H : Type} : (Rows.laid_wringer_blake_first : DataW H) = .agg ((List.range 8).map fun i => .lit (.int .u64 (kfirst.getD i 0))) := rfl
theorem rows_eq {H : Type} : (Rows.laid_wringer_blake_rows : DataW H) = .agg ((List.range 10).map fun i => .agg ((List.range 16).map fun j => .lit (.int .u8 ((krows.getD (16 * i + j) 0 : Nat) : Int)))) := rfl
theorem lit64 {H : Type} {enc : TypeId × Value → H} {W : World} {sp : Nat → Bool} {hd : Bool} {m : Nat} {cs : List Value} {ds : List (DataW H)} {p : List MemPlace} (h : DataW.trod enc Tryd.prog W 0 sp hd m 100 cs = some (.agg ds, p)) (r : Nat) (hr : r < 8) (a : Int) (ha : ds[r]? = some (.lit (.int .u64 a))) : cs[r]? = some (.int .u64 a) := by
  obtain ⟨xs, m1, _, ex, _, hl, hel⟩ := DataW.trod_array Tryd.underlying100 h
  have c5 : Tryd.prog.cellsOf 54 = 1 := by kernel_rfl
  have hE := hel r hr
  rw [c5, Nat.mul_one, List.getElem?_eq_getElem (by omega)] at hE
  obtain ⟨k, e1, e2, _⟩ := DataW.trod_int Tryd.underlying54 hE
  have h1 : ds = xs.map (·.1) := by cases ex; rfl
  rw [h1, List.getElem?_map, List.getElem?_eq_getElem (by omega), e2] at ha
  have hk : k = a := by simpa using ha
  subst hk
  have h0 : ((cs.drop r).take 1)[0]? = some (.int .u64 k) := by rw [e1]; rfl
  simpa using h0
theorem lit8 {H : Type} {enc : TypeId × Value → H} {W : World} {sp : Nat → Bool} {hd : Bool} {m : Nat} {cs : List Value} {ds : List (DataW H)} {p : List MemPlace} (h : DataW.trod enc Tryd.prog W 0 sp hd m 32 cs = some (.agg ds, p)) (r : Nat) (hr : r < 16) (a : Int) (ha : ds[r]? = some (.lit (.int .u8 a))) : cs[r]? = some (.int .u8 a) := by
  obtain ⟨xs, m1, _, ex, _, hl, hel⟩ := DataW.trod_array Tryd.underlying32 h
  have c5 : Tryd.prog.cellsOf 5 = 1 := by kernel_rfl
  have hE := hel r hr
  rw [c5, Nat.mul_one, List.getElem?_eq_getElem (by omega)] at hE
  obtain ⟨k, e1, e2, _⟩ := DataW.trod_int Tryd.underlying5 hE
  have h1 : ds = xs.map (·.1) := by cases ex; rfl
  rw [h1, List.getElem?_map, List.getElem?_eq_getElem (by omega), e2] at ha
  have hk : k = a := by simpa using ha
  subst hk
  have h0 : ((cs.drop r).take 1)[0]? = some (.int .u8 k) := by rw [e1]; rfl
  simpa using h0
theorem brow_cell {H : Type} {enc : TypeId × Value → H} {W : World} {sp : Nat → Bool} {hd : Bool} {m : Nat} {cs : List Value} {ds : List (DataW H)} {p : List MemPlace} (h : DataW.trod enc Tryd.prog W 0 sp hd m 70 cs = some (.agg ds, p)) (i r : Nat) (hi : i < 10) (hr : r < 16) (es : List (DataW H)) (he : ds[i]? = some (.agg es)) (a : Int) (ha : es[r]? = some (.lit (.int .u8 a))) : cs[i * 16 + r]? = some (.int .u8 a) := by
  obtain ⟨xs, m1, _, ex, _, hl, hel⟩ := DataW.trod_array Tryd.underlying70 h
  have c4 : Tryd.prog.cellsOf 32 = 16 := by kernel_rfl
  have hE := hel i hi
  rw [c4, List.getElem?_eq_getElem (by omega)] at hE
  have h1 : ds = xs.map (·.1) := by cases ex; rfl
  rw [h1, List.getElem?_map, List.getElem?_eq_getElem (by omega)] at he
  rcases hx : xs[i]'(by omega) with ⟨d, q⟩
  rw [hx] at he hE
  have hd' : d = .agg es := by simpa using he
  subst hd'
  have := lit8 hE r hr a ha
  rw [List.getElem?_take_of_lt hr, List.getElem?_drop] at this
  exact this
theorem mix_eq {H : Type} : (Rows.laid_wringer_turn_mixing : DataW H) = .agg ((List.range 4).map fun i => .agg ((List.range 4).map fun j => .lit (.int .u8 (mixL.getD (4 * i + j) 0)))) := rfl
theorem unm_eq {H : Type} : (Rows.laid_wringer_turn_unmixing : DataW H) = .agg ((List.range 4).map fun i => .agg ((List.range 4).map fun j => .lit (.int .u8 (unmL.getD (4 * i + j) 0)))) := rfl
theorem lit_cell {H : Type} {enc : TypeId × Value → H} {W : World} {sp : Nat → Bool} {hd : Bool} {m : Nat} {cs : List Value} {ds : List (DataW H)} {p : List MemPlace} (h : DataW.trod enc Tryd.prog W 0 sp hd m 117 cs = some (.agg ds, p)) (r : Nat) (hr : r < 4) (a : Int) (ha : ds[r]? = some (.lit (.int .u8 a))) : cs[r]? = some (.int .u8 a) := by
  obtain ⟨xs, m1, _, ex, _, hl, hel⟩ := DataW.trod_array Tryd.underlying117 h
  have c5 : Tryd.prog.cellsOf 5 = 1 := by kernel_rfl
  have hE := hel r hr
  rw [c5, Nat.mul_one, List.getElem?_eq_getElem (by omega)] at hE
  obtain ⟨k, e1, e2, _⟩ := DataW.trod_int Tryd.underlying5 hE
  have h1 : ds = xs.map (·.1) := by cases ex; rfl
  rw [h1, List.getElem?_map, List.getElem?_eq_getElem (by omega), e2] at ha
  have hk : k = a := by simpa using ha
  subst hk
  have h0 : ((cs.drop r).take 1)[0]? = some (.int .u8 k) := by rw [e1]; rfl
  simpa using h0
theorem quad_cell {H : Type} {enc : TypeId × Value → H} {W : World} {sp : Nat → Bool} {hd : Bool} {m : Nat} {cs : List Value} {ds : List (DataW H)} {p : List MemPlace} (h : DataW.trod enc Tryd.prog W 0 sp hd m 126 cs = some (.agg ds, p)) (i r : Nat) (hi : i < 4) (hr : r < 4) (es : List (DataW H)) (he : ds[i]? = some (.agg es)) (a : Int) (ha : es[r]? = some (.lit (.int .u8 a))) : cs[i * 4 + r]? = some (.int .u8 a) := by
  obtain ⟨xs, m1, _, ex, _, hl, hel⟩ := DataW.trod_array Tryd.underlying126 h
  have c4 : Tryd.prog.cellsOf 117 = 4 := by kernel_rfl
  have hE := hel i hi
  rw [c4, List.getElem?_eq_getElem (by omega)] at hE
  have h1 : ds = xs.map (·.1) := by cases ex; rfl
  rw [h1, List.getElem?_map, List.getElem?_eq_getElem (by omega)] at he
  rcases hx : xs[i]'(by omega) with ⟨d, q⟩
  rw [hx] at he hE
  have hd' : d = .agg es := by simpa using he
  subst hd'
  have := lit_cell hE r hr a ha
  rw [List.getElem?_take_of_lt hr, List.getElem?_drop] at this
  exact this
theorem quads {H : Type} {enc : TypeId × Value → H} {W : World} {sp : Nat → Bool} {hd : Bool} {m : Nat} {cs : List Value} {p : List MemPlace} {l : List Int} (hl : l.length = 16) (h : DataW.trod enc Tryd.prog W 0 sp hd m 126 cs = some (.agg ((List.range 4).map fun i => .agg ((List.range 4).map fun j => .lit (.int .u8 (l.getD (4 * i + j) 0)))), p)) (i : Nat) (v : Value) (hi : (l.map (Value.int .u8))[i]? = some v) : cs[i]? = some v := by
  have hlt : i < 16 := by have := (List.getElem?_eq_some_iff.1 hi).1; simpa [hl] using this
  have e := quad_cell h (i / 4) (i % 4) (by omega) (Nat.mod_lt _ (by decide)) _ (by rw [List.getElem?_map, List.getElem?_range (by omega)]; rfl) (l.getD (4 * (i / 4) + i % 4) 0) (by rw [List.getElem?_map, List.getElem?_range (Nat.mod_lt _ (by decide))]; rfl)
  rw [show 4 * (i / 4) + i % 4 = i by omega, show i / 4 * 4 + i % 4 = i by omega] at e
  have hk : l[i]? = some (l.getD i 0) := by
    rw [List.getD_eq_getElem?_getD, List.getElem?_eq_getElem (by omega)]; rfl
  rw [List.getElem?_map, hk] at hi
  cases hi
  exact e
theorem laid_all {W : World} (h : laidMetH Tryd.prog lay1 W) : (∀ i v, (kfirst.map (Value.int .u64))[i]? = some v → W.cell? ⟨0, i, none⟩ = some v) ∧ (∀ i v, krcs[i]? = some v → W.cell? ⟨3, i, none⟩ = some v) ∧ (∀ i v, (mixL.map (Value.int .u8))[i]? = some v → W.cell? ⟨1, i, none⟩ = some v) ∧ (∀ i v, (unmL.map (Value.int .u8))[i]? = some v → W.cell? ⟨2, i, none⟩ = some v) := by
  rw [MakeChecks.laidMetH_plain _ _ _ (by kernel_rfl)] at h
  obtain ⟨ps, ⟨g0, t0, cs0, f0, p0, q0, hg0, ht0, hv0, hd0, ⟨g1, t1, cs1, f1, p1, q1, hg1, ht1, hv1, hd1, ⟨g2, t2, cs2, f2, p2, q2, hg2, ht2, hv2, hd2, ⟨g3, t3, cs3, f3, p3, q3, hg3, ht3, hv3, hd3, _, _⟩, _⟩, _⟩, _⟩, _, _⟩ := h
  obtain rfl := Option.some.inj (gFst.symm.trans hg0)
  obtain rfl := Option.some.inj (gRws.symm.trans hg1)
  obtain rfl := Option.some.inj (gMix.symm.trans hg2)
  obtain rfl := Option.some.inj (gUn.symm.trans hg3)
  obtain rfl := Option.some.inj (tFst.symm.trans ht0)
  obtain rfl := Option.some.inj (tRws.symm.trans ht1)
  obtain rfl := Option.some.inj (tMix.symm.trans ht2)
  obtain rfl := Option.some.inj (tUn.symm.trans ht3)
  rw [first_eq] at hd0
  rw [rows_eq] at hd1
  rw [mix_eq] at hd2
  rw [unm_eq] at hd3
  refine ⟨?_, ?_, fun i v hi => (World.var?_cell hg2 hv2 i).trans (by simpa using quads rfl hd2 i v hi), fun i v hi => (World.var?_cell hg3 hv3 i).trans (by simpa using quads rfl hd3 i v hi)⟩
  · intro i v hi
    refine (World.var?_cell hg0 hv0 i).trans ?_
    have hlt : i < 8 := by have := (List.getElem?_eq_some_iff.1 hi).1; simpa [kfirst] using this
    have e := lit64 hd0 i hlt (kfirst.getD i 0) (by rw [List.getElem?_map, List.getElem?_range hlt]; rfl)
    have hk : kfirst[i]? = some (kfirst.getD i 0) := by
      have hl : i < kfirst.length := hlt
      rw [List.getD_eq_getElem?_getD, List.getElem?_eq_getElem hl]; rfl
    rw [List.getElem?_map, hk] at hi
    cases hi
    simpa using e
  · intro i v hi
    refine (World.var?_cell hg1 hv1 i).trans ?_
    have hlt : i < 160 := by have := (List.getElem?_eq_some_iff.1 hi).1; simpa [krcs, krows] using this
    have e := brow_cell hd1 (i / 16) (i % 16) (by omega) (Nat.mod_lt _ (by decide)) _ (by rw [List.getElem?_map, List.getElem?_range (by omega)]; rfl) ((krows.getD (16 * (i / 16) + i % 16) 0 : Nat) : Int) (by rw [List.getElem?_map, List.getElem?_range (Nat.mod_lt _ (by decide))]; rfl)
    have hl : krows.length = 160 := rfl
    rw [show 16 * (i / 16) + i % 16 = i by omega, show i / 16 * 16 + i % 16 = i by omega] at e
    have hk : krows[i]? = some (krows.getD i 0) := by
      have hl2 : i < krows.length := by omega
      rw [List.getD_eq_getElem?_getD, List.getElem?_eq_getElem hl2]; rfl
    unfold krcs at hi
    rw [List.getElem?_map, hk] at hi
    cases hi
    simpa using e
theorem laid_fst {W : World} (h : laidMetH Tryd.prog lay1 W) : kfirst.map (Value.int .u64) ≠ [] ∧ ∀ i v, (kfirst.map (Value.int .u64))[i]? = some v → W.cell? ⟨0, i, none⟩ = some v := ⟨by simp [kfirst], (laid_all h).1⟩
theorem laid_rws {W : World} (h : laidMetH Tryd.prog lay1 W) : krcs ≠ [] ∧ ∀ i v, krcs[i]? = some v → W.cell? ⟨3, i, none⟩ = some v := ⟨by simp [krcs, krows], (laid_all h).2.1⟩
theorem laid_mix {W : World} (h : laidMetH Tryd.prog lay1 W) : mixL.map (Value.int .u8) ≠ [] ∧ ∀ i v, (mixL.map (Value.int .u8))[i]? = some v → W.cell? ⟨1, i, none⟩ = some v := ⟨by decide, (laid_all h).2.2.1⟩
theorem laid_unm {W : World} (h : laidMetH Tryd.prog lay1 W) : unmL.map (Value.int .u8) ≠ [] ∧ ∀ i v, (unmL.map (Value.int .u8))[i]? = some v → W.cell? ⟨2, i, none⟩ = some v := ⟨by decide, (laid_all h).2.2.2⟩
theorem s8_of_trod {H : Type} {enc : TypeId × Value → H} {W : World} {a : Option Addr} {len cap : Nat} {d : DataW H} {p : List MemPlace}
    (h : DataW.Trod enc Tryd.prog W 0 (fun _ => true) true 22 (.slice a len cap) d p) : ∃ bs : List Int, (∀ x ∈ bs, R8 x) ∧ bs.length ≤ 9223372036854775807 ∧ SliceAt W (.slice a len cap) .u8 bs := by
  obtain ⟨fuel, hf⟩ := h
  rcases open_ints Tryd.underlying22 Tryd.underlying5 (by kernel_rfl) hf with ⟨hcs, _⟩ | ⟨x, l, c, zs, hcs, hx, hl, hm, hz, _, hcell, hwz⟩
  · simp [Value.cells] at hcs
    obtain ⟨rfl, rfl, rfl⟩ := hcs
    exact ⟨[], (fun x hx => by cases hx), by decide, none, 0, rfl, Nat.le_refl _, .inl rfl⟩
  · simp [Value.cells] at hcs
    obtain ⟨rfl, rfl, rfl⟩ := hcs
    unfold maxLen at hm
    have hz : zs.length = cap := by simpa using hz
    have hlen : (zs.take len).length = len := by simp; omega
    refine ⟨zs.take len, fun y hy => ?_, by omega, _, cap, by rw [hlen], by omega, ?_⟩
    · have := bounds_u8 (hwz y (List.mem_of_mem_take hy))
      unfold R8; omega
    by_cases h0 : len = 0
    · exact .inl (by subst h0; simp)
    · obtain ⟨b, off, rfl, hc⟩ := ints_at hcell (by omega)
      refine .inr ⟨b, off, rfl, fun i y hi => ?_⟩
      have hil : i < len := by
        have := (List.getElem?_eq_some_iff.1 hi).1
        omega
      rw [hc i (by omega)]
      rw [List.getElem?_take_of_lt hil] at hi
      rw [List.getD_eq_getElem?_getD, hi]
      rfl

theorem drop_cut (l : List Value) (o s : Nat) : l.drop o = (l.drop o).take s ++ l.drop (o + s) := by
  have := (List.take_append_drop s (l.drop o)).symm
  rwa [List.drop_drop] at this
theorem relL_app {ρ : Rho} {l l' : List AV} {vs vs' : List Value} (h : RelL ρ l vs) (h' : RelL ρ l' vs') : RelL ρ (l ++ l') (vs ++ vs') := by
  refine ⟨by simp [h.1, h'.1], fun i x v h1 h2 => ?_⟩
  by_cases hi : i < l.length
  · rw [List.getElem?_append_left hi] at h1
    rw [List.getElem?_append_left (by rw [← h.1]; exact hi)] at h2
    exact h.2 i x v h1 h2
  · rw [List.getElem?_append_right (by omega)] at h1
    rw [List.getElem?_append_right (by rw [← h.1]; omega), ← h.1] at h2
    exact h'.2 _ x v h1 h2
theorem rel_agg {ρ : Rho} {l : List AV} {vs : List Value} (h : RelL ρ l vs) : Rel ρ (.agg l) (.agg vs.toArray) := .agg h.1 h.2

theorem a16_of_trod {H : Type} {enc : TypeId × Value → H} {W : World} {base : Nat} {v : Value} {d : DataW H} {p : List MemPlace} (hv : Value.okWide Tryd.prog W .any base 32 v)
    (h : DataW.Trod enc Tryd.prog W 0 (fun _ => true) true 32 v d p) : ∃ f : Nat → Int, v = .agg (ar8 16 f).toArray ∧ ∀ i, i < 16 → R8 (f i) := by
  obtain ⟨cs, rfl⟩ : ∃ cs, v = .agg cs := by
    unfold Value.okWide at hv
    rw [Tryd.underlying32] at hv
    cases v <;> simp_all
  obtain ⟨fuel, hf⟩ := h
  obtain ⟨xs, m, _, ex, hc, hl, hel⟩ := DataW.trod_array Tryd.underlying32 hf
  have c5 : Tryd.prog.cellsOf 5 = 1 := by kernel_rfl
  have c16 : Tryd.prog.cellsOf 32 = 16 := by kernel_rfl
  rw [c16] at hc
  simp only [Value.cells] at hc hel
  have hcl : cs.toList.length = 16 := by simpa using hc
  have key : ∀ r, r < 16 → ∃ z : Int, cs.toList[r]? = some (.int .u8 z) ∧ R8 z := by
    intro r hr
    have hE := hel r hr
    rw [c5, Nat.mul_one, List.getElem?_eq_getElem (by omega)] at hE
    obtain ⟨z, e1, _, wz⟩ := DataW.trod_int Tryd.underlying5 hE
    have bz := bounds_u8 wz
    have h0 : ((cs.toList.drop r).take 1)[0]? = some (.int .u8 z) := by rw [e1]; rfl
    exact ⟨z, by simpa using h0, by unfold R8; omega⟩
  refine ⟨fun i => match cs.toList[i]? with | some (.int _ z) => z | _ => 0, ?_, fun i hi => ?_⟩
  · congr 1
    apply Array.ext'
    apply List.ext_getElem?
    intro i
    by_cases hi : i < 16
    · obtain ⟨z, hz, _⟩ := key i hi
      simp only [ar8, List.getElem?_map, List.getElem?_range hi, Option.map_some]
      rw [hz]
    · rw [List.getElem?_eq_none (by omega), List.getElem?_eq_none (by simp [ar8]; omega)]
  · obtain ⟨z, hz, hr⟩ := key i hi
    simp only [hz]; exact hr

theorem a16_cells {H : Type} {enc : TypeId × Value → H} {W : World} {sp : Nat → Bool} {hd : Bool} {m : Nat} {cs : List Value} {x : DataW H × List MemPlace} (h : DataW.trod enc Tryd.prog W 0 sp hd m 32 cs = some x) : ∃ f : Nat → Int, cs = ar8 16 f ∧ ∀ i, i < 16 → R8 (f i) := by
  obtain ⟨xs, m1, _, ex, hc, hl, hel⟩ := DataW.trod_array Tryd.underlying32 h
  have c5 : Tryd.prog.cellsOf 5 = 1 := by kernel_rfl
  have c16 : Tryd.prog.cellsOf 32 = 16 := by kernel_rfl
  rw [c16] at hc
  have key : ∀ r, r < 16 → ∃ z : Int, cs[r]? = some (.int .u8 z) ∧ R8 z := by
    intro r hr
    have hE := hel r hr
    rw [c5, Nat.mul_one, List.getElem?_eq_getElem (by omega)] at hE
    obtain ⟨z, e1, _, wz⟩ := DataW.trod_int Tryd.underlying5 hE
    have bz := bounds_u8 wz
    have h0 : ((cs.drop r).take 1)[0]? = some (.int .u8 z) := by rw [e1]; rfl
    exact ⟨z, by simpa using h0, by unfold R8; omega⟩
  refine ⟨fun i => match cs[i]? with | some (.int _ z) => z | _ => 0, eq_ar8 hc fun i hi => ?_, fun i hi => ?_⟩
  · obtain ⟨z, hz, _⟩ := key i hi
    rw [hz]
  · obtain ⟨z, hz, hr⟩ := key i hi
    simp only [hz]; exact hr

theorem asked15_cells {H : Type} {enc : TypeId × Value → H} {W : World} {m : Nat} {cs : List Value} {x : DataW H × List MemPlace} (h : DataW.trod enc Tryd.prog W 0 (fun _ => true) true m 45 cs = some x) :
    ∃ (a_0 : Option Addr) (len_0 : Nat) (cap_0 : Nat) (bs_0 : List Int) (n_1 : Int) (n_2 : Int) (f_3 : Nat → Int), cs = [Value.slice a_0 len_0 cap_0] ++ [Value.int .i64 n_1] ++ [Value.int .i64 n_2] ++ ar8 16 f_3 ∧ (∀ x ∈ bs_0, R8 x) ∧ bs_0.length ≤ 9223372036854775807 ∧ SliceAt W (.slice a_0 len_0 cap_0) .u8 bs_0 ∧ (Lit.int .i64 n_1).wf = true ∧ (Lit.int .i64 n_2).wf = true ∧ (∀ i, i < 16 → R8 (f_3 i)) := by
  obtain ⟨xs, n, _, _, hc, hl, hel⟩ := DataW.trod_struct Tryd.underlying45 h
  have cN : Tryd.prog.cellsOf 45 = 19 := by kernel_rfl
  rw [cN] at hc
  have hl4 : xs.length = 4 := hl
  have h0 : DataW.trod enc Tryd.prog W 0 (fun _ => true) true n 22 ((cs.drop 0).take (Tryd.prog.cellsOf 22)) = xs[0]? := hel 0 _ rfl
  rw [List.getElem?_eq_getElem (by omega), show Tryd.prog.cellsOf 22 = 1 by kernel_rfl] at h0
  obtain ⟨a_0, len_0, cap_0, e0⟩ := slice_form Tryd.underlying22 h0
  rw [e0] at h0
  obtain ⟨bs_0, hb_0, hl_0, hs_0⟩ := s8_of_trod (enc := enc) (a := a_0) (len := len_0) (cap := cap_0) (d := xs[0].1) (p := xs[0].2) ⟨n, by simpa [Value.cells] using h0⟩
  have h1 : DataW.trod enc Tryd.prog W 0 (fun _ => true) true n 3 ((cs.drop 1).take (Tryd.prog.cellsOf 3)) = xs[1]? := hel 1 _ rfl
  rw [List.getElem?_eq_getElem (by omega), show Tryd.prog.cellsOf 3 = 1 by kernel_rfl] at h1
  obtain ⟨n_1, e1, _, w_1⟩ := DataW.trod_int Tryd.underlying3 h1
  have h2 : DataW.trod enc Tryd.prog W 0 (fun _ => true) true n 3 ((cs.drop 2).take (Tryd.prog.cellsOf 3)) = xs[2]? := hel 2 _ rfl
  rw [List.getElem?_eq_getElem (by omega), show Tryd.prog.cellsOf 3 = 1 by kernel_rfl] at h2
  obtain ⟨n_2, e2, _, w_2⟩ := DataW.trod_int Tryd.underlying3 h2
  have h3 : DataW.trod enc Tryd.prog W 0 (fun _ => true) true n 32 ((cs.drop 3).take (Tryd.prog.cellsOf 32)) = xs[3]? := hel 3 _ rfl
  rw [List.getElem?_eq_getElem (by omega), show Tryd.prog.cellsOf 32 = 16 by kernel_rfl] at h3
  obtain ⟨f_3, e3, w_3⟩ := a16_cells h3
  refine ⟨a_0, len_0, cap_0, bs_0, n_1, n_2, f_3, ?_, hb_0, hl_0, hs_0, w_1, w_2, w_3⟩
  have sp : cs = (cs.drop 0).take 1 ++ (cs.drop 1).take 1 ++ (cs.drop 2).take 1 ++ (cs.drop 3).take 16 := by
    have hz : cs.drop 19 = [] := List.drop_eq_nil_of_le (by omega)
    have t4 : cs.drop 19 = [] := hz
    have t3 : cs.drop 3 = (cs.drop 3).take 16 := by
      have := drop_cut cs 3 16
      rwa [t4, List.append_nil] at this
    have t2 : cs.drop 2 = ((cs.drop 2).take 1 ++ (cs.drop 3).take 16) := by
      have := drop_cut cs 2 1
      rwa [t3] at this
    have t1 : cs.drop 1 = ((cs.drop 1).take 1 ++ ((cs.drop 2).take 1 ++ (cs.drop 3).take 16)) := by
      have := drop_cut cs 1 1
      rwa [t2] at this
    have t0 : cs.drop 0 = ((cs.drop 0).take 1 ++ ((cs.drop 1).take 1 ++ ((cs.drop 2).take 1 ++ (cs.drop 3).take 16))) := by
      have := drop_cut cs 0 1
      rwa [t1] at this
    rw [List.drop_zero] at t0
    refine t0.trans ?_
    simp only [List.append_assoc, List.drop_zero]
  rw [sp, e0, e1, e2, e3]
theorem asked15_of_trod {H : Type} {enc : TypeId × Value → H} {W : World} {base : Nat} {v : Value} {d : DataW H} {p : List MemPlace} (hv : Value.okWide Tryd.prog W .any base 45 v)
    (h : DataW.Trod enc Tryd.prog W 0 (fun _ => true) true 45 v d p) : ∃ (a_0 : Option Addr) (len_0 : Nat) (cap_0 : Nat) (bs_0 : List Int) (n_1 : Int) (n_2 : Int) (f_3 : Nat → Int), v = .agg ([Value.slice a_0 len_0 cap_0] ++ [Value.int .i64 n_1] ++ [Value.int .i64 n_2] ++ ar8 16 f_3).toArray ∧ (∀ x ∈ bs_0, R8 x) ∧ bs_0.length ≤ 9223372036854775807 ∧ SliceAt W (.slice a_0 len_0 cap_0) .u8 bs_0 ∧ (Lit.int .i64 n_1).wf = true ∧ (Lit.int .i64 n_2).wf = true ∧ (∀ i, i < 16 → R8 (f_3 i)) := by
  obtain ⟨cs, rfl⟩ : ∃ cs, v = .agg cs := by
    unfold Value.okWide at hv
    rw [Tryd.underlying45] at hv
    cases v <;> simp_all
  obtain ⟨fuel, hf⟩ := h
  obtain ⟨a_0, len_0, cap_0, bs_0, n_1, n_2, f_3, e, hh⟩ := asked15_cells hf
  simp only [Value.cells] at e
  exact ⟨a_0, len_0, cap_0, bs_0, n_1, n_2, f_3, by rw [← e], hh⟩

end Go.Proofs.YtfdkdbbigpphcaaDoor
