/- Own: how arguments of layer 6 are opened, and what the listed variables give (no statement is proved here). -/
import Derived.Test.YtenjcieaoedfaaaDoorLR
import Derived.Test.YtenjcieaoedfaaaDoorK4
import Derived.Test.YtenjcieaoedfaaaDoorTie
import Derived.Test.YtenjcieaoedfaaaDoorCards
import Derived.Stop.Joined
import Derived.SevenTiedAt
import Derived.LaidMore
namespace Go.Proofs.YtenjcieaoedfaaaDoor
open Go.ChangeShapes Go.WideShapes Go.ChangeAt Go.RowKit Go.Joins Ab
set_option maxRecDepth 4000
set_option linter.unusedSimpArgs false
/-- The variables, as the rows list them. -/
def lay1 : List (String × DataW Unit) := [("wringer/blake.first", Rows.laid_wringer_blake_first), ("wringer/blake.rows", Rows.laid_wringer_blake_rows)]
theorem gFst : Tryd.prog.globalNamed "wringer/blake.first" = some 0 := by kernel_rfl
theorem gRws : Tryd.prog.globalNamed "wringer/blake.rows" = some 1 := by kernel_rfl
theorem tFst : (Tryd.prog.globals[0]?).map (·.type) = some 37 := by kernel_rfl
theorem tRws : (Tryd.prog.globals[1]?).map (·.type) = some 58 := by kernel_rfl
theorem door_met (os : Os) (args : Array Value) : laidMetH Tryd.prog lay1 ((World.doorLaid Tryd.prog 400 os).forCall (fun _ _ => 0) ⟨#[], args, []⟩).memory :=
  laidMetH_of_parts3 (fuel := 8) (laidMet_of_run' 8 (by kernel_rfl) (by kernel_rfl)) (by kernel_rfl) (by kernel_rfl)
theorem eq_ar64 {l : List Value} {n : Nat} {s : Nat → Int} (hl : l.length = n) (h : ∀ i, i < n → l[i]? = some (.int .u64 (s i))) : l = ar64 n s := by
  apply List.ext_getElem?
  intro i
  by_cases hi : i < n
  · rw [h i hi]; unfold ar64; rw [List.getElem?_map, List.getElem?_range hi]; rfl
  · rw [List.getElem?_eq_none (by omega), List.getElem?_eq_none (by unfold ar64; simp; omega)]
theorem first_eq {H : Type} : (Rows.laid_wringer_blake_first : DataW H) = .agg ((List.range 8).map fun i => .lit (.int .u64 (kfirst.getD i 0))) := rfl
theorem rows_eq {H : Type} : (Rows.laid_wringer_blake_rows : DataW H) = .agg ((List.range 10).map fun i => .agg ((List.range 16).map fun j => .lit (.int .u8 ((krows.getD (16 * i + j) 0 : Nat) : Int)))) := rfl
theorem lit64 {H : Type} {enc : TypeId × Value → H} {W : World} {sp : Nat → Bool} {hd : Bool} {m : Nat} {cs : List Value} {ds : List (DataW H)} {p : List MemPlace} (h : DataW.trod enc Tryd.prog W 0 sp hd m 37 cs = some (.agg ds, p)) (r : Nat) (hr : r < 8) (a : Int) (ha : ds[r]? = some (.lit (.int .u64 a))) : cs[r]? = some (.int .u64 a) := by
  obtain ⟨xs, m1, _, ex, _, hl, hel⟩ := DataW.trod_array Tryd.underlying37 h
  have c5 : Tryd.prog.cellsOf 36 = 1 := by kernel_rfl
  have hE := hel r hr
  rw [c5, Nat.mul_one, List.getElem?_eq_getElem (by omega)] at hE
  obtain ⟨k, e1, e2, _⟩ := DataW.trod_int Tryd.underlying36 hE
  have h1 : ds = xs.map (·.1) := by cases ex; rfl
  rw [h1, List.getElem?_map, List.getElem?_eq_getElem (by omega), e2] at ha
  have hk : k = a := by simpa using ha
  subst hk
  have h0 : ((cs.drop r).take 1)[0]? = some (.int .u64 k) := by rw [e1]; rfl
  simpa using h0
theorem lit8 {H : Type} {enc : TypeId × Value → H} {W : World} {sp : Nat → Bool} {hd : Bool} {m : Nat} {cs : List Value} {ds : List (DataW H)} {p : List MemPlace} (h : DataW.trod enc Tryd.prog W 0 sp hd m 57 cs = some (.agg ds, p)) (r : Nat) (hr : r < 16) (a : Int) (ha : ds[r]? = some (.lit (.int .u8 a))) : cs[r]? = some (.int .u8 a) := by
  obtain ⟨xs, m1, _, ex, _, hl, hel⟩ := DataW.trod_array Tryd.underlying57 h
  have c5 : Tryd.prog.cellsOf 5 = 1 := by kernel_rfl
  have hE := hel r hr
  rw [c5, Nat.mul_one, List.getElem?_eq_getElem (by omega)] at hE
  obtain ⟨k, e1, e2, _⟩ := DataW.trod_int Tryd.underlying5 hE
  have h1 : ds = xs.map (·.1) := by cases ex; rfl
  rw [h1, List.getElem?_map, List.getElem?_eq_getElem (by omega), e2] at ha
  have hk : k = a := by simpa using ha
  subst hk
  have h0 : ((cs.drop r).take 1)[0]? = some (.int .u8 k) := by rw [e1]; rfl
  simpa using h0
theorem row_cell {H : Type} {enc : TypeId × Value → H} {W : World} {sp : Nat → Bool} {hd : Bool} {m : Nat} {cs : List Value} {ds : List (DataW H)} {p : List MemPlace} (h : DataW.trod enc Tryd.prog W 0 sp hd m 58 cs = some (.agg ds, p)) (i r : Nat) (hi : i < 10) (hr : r < 16) (es : List (DataW H)) (he : ds[i]? = some (.agg es)) (a : Int) (ha : es[r]? = some (.lit (.int .u8 a))) : cs[i * 16 + r]? = some (.int .u8 a) := by
  obtain ⟨xs, m1, _, ex, _, hl, hel⟩ := DataW.trod_array Tryd.underlying58 h
  have c4 : Tryd.prog.cellsOf 57 = 16 := by kernel_rfl
  have hE := hel i hi
  rw [c4, List.getElem?_eq_getElem (by omega)] at hE
  have h1 : ds = xs.map (·.1) := by cases ex; rfl
  rw [h1, List.getElem?_map, List.getElem?_eq_getElem (by omega)] at he
  rcases hx : xs[i]'(by omega) with ⟨d, q⟩
  rw [hx] at he hE
  have hd' : d = .agg es := by simpa using he
  subst hd'
  have := lit8 hE r hr a ha
  rw [List.getElem?_take_of_lt hr, List.getElem?_drop] at this
  exact this
theorem laid_both {W : World} (h : laidMetH Tryd.prog lay1 W) : (∀ i v, (kfirst.map (Value.int .u64))[i]? = some v → W.cell? ⟨0, i, none⟩ = some v) ∧ (∀ i v, krcs[i]? = some v → W.cell? ⟨1, i, none⟩ = some v) := by
  rw [MakeChecks.laidMetH_plain _ _ _ (by kernel_rfl)] at h
  obtain ⟨ps, ⟨g0, t0, cs0, f0, p0, q0, hg0, ht0, hv0, hd0, ⟨g1, t1, cs1, f1, p1, q1, hg1, ht1, hv1, hd1, _, _⟩, _⟩, _, _⟩ := h
  obtain rfl := Option.some.inj (gFst.symm.trans hg0)
  obtain rfl := Option.some.inj (gRws.symm.trans hg1)
  obtain rfl := Option.some.inj (tFst.symm.trans ht0)
  obtain rfl := Option.some.inj (tRws.symm.trans ht1)
  rw [first_eq] at hd0
  rw [rows_eq] at hd1
  constructor
  · intro i v hi
    refine (World.var?_cell hg0 hv0 i).trans ?_
    have hlt : i < 8 := by have := (List.getElem?_eq_some_iff.1 hi).1; simpa [kfirst] using this
    have e := lit64 hd0 i hlt (kfirst.getD i 0) (by rw [List.getElem?_map, List.getElem?_range hlt]; rfl)
    have hk : kfirst[i]? = some (kfirst.getD i 0) := by
      have hl : i < kfirst.length := hlt
      rw [List.getD_eq_getElem?_getD, List.getElem?_eq_getElem hl]; rfl
    rw [List.getElem?_map, hk] at hi
    cases hi
    simpa using e
  · intro i v hi
    refine (World.var?_cell hg1 hv1 i).trans ?_
    have hlt : i < 160 := by have := (List.getElem?_eq_some_iff.1 hi).1; simpa [krcs, krows] using this
    have e := row_cell hd1 (i / 16) (i % 16) (by omega) (Nat.mod_lt _ (by decide)) _ (by rw [List.getElem?_map, List.getElem?_range (by omega)]; rfl) ((krows.getD (16 * (i / 16) + i % 16) 0 : Nat) : Int) (by rw [List.getElem?_map, List.getElem?_range (Nat.mod_lt _ (by decide))]; rfl)
    have hl : krows.length = 160 := rfl
    rw [show 16 * (i / 16) + i % 16 = i by omega, show i / 16 * 16 + i % 16 = i by omega] at e
    have hk : krows[i]? = some (krows.getD i 0) := by
      have hl2 : i < krows.length := by omega
      rw [List.getD_eq_getElem?_getD, List.getElem?_eq_getElem hl2]; rfl
    unfold krcs at hi
    rw [List.getElem?_map, hk] at hi
    cases hi
    simpa using e
theorem laid_fst {W : World} (h : laidMetH Tryd.prog lay1 W) : kfirst.map (Value.int .u64) ≠ [] ∧ ∀ i v, (kfirst.map (Value.int .u64))[i]? = some v → W.cell? ⟨0, i, none⟩ = some v := ⟨by simp [kfirst], (laid_both h).1⟩
theorem laid_rws {W : World} (h : laidMetH Tryd.prog lay1 W) : krcs ≠ [] ∧ ∀ i v, krcs[i]? = some v → W.cell? ⟨1, i, none⟩ = some v := ⟨by simp [krcs, krows], (laid_both h).2⟩
theorem drop_cut (l : List Value) (o s : Nat) : l.drop o = (l.drop o).take s ++ l.drop (o + s) := by
  have := (List.take_append_drop s (l.drop o)).symm
  rwa [List.drop_drop] at this
theorem relL_app {ρ : Rho} {l l' : List AV} {vs vs' : List Value} (h : RelL ρ l vs) (h' : RelL ρ l' vs') : RelL ρ (l ++ l') (vs ++ vs') := by
  refine ⟨by simp [h.1, h'.1], fun i x v h1 h2 => ?_⟩
  by_cases hi : i < l.length
  · rw [List.getElem?_append_left hi] at h1
    rw [List.getElem?_append_left (by rw [← h.1]; exact hi)] at h2
    exact h.2 i x v h1 h2
  · rw [List.getElem?_append_right (by omega)] at h1
    rw [List.getElem?_append_right (by rw [← h.1]; omega), ← h.1] at h2
    exact h'.2 _ x v h1 h2
theorem rel_agg {ρ : Rho} {l : List AV} {vs : List Value} (h : RelL ρ l vs) : Rel ρ (.agg l) (.agg vs.toArray) := .agg h.1 h.2

theorem parts06_cells {H : Type} {enc : TypeId × Value → H} {W : World} {m : Nat} {cs : List Value} {x : DataW H × List MemPlace} (h : DataW.trod enc Tryd.prog W 0 (fun _ => true) true m 25 cs = some x) :
    ∃ (n_0 : Int) (a_1 : Option Addr) (len_1 : Nat) (cap_1 : Nat) (bs_1 : List Int) (a_2 : Option Addr) (len_2 : Nat) (cap_2 : Nat) (rs_2 : List (List Int)), cs = [Value.int .i64 n_0] ++ [Value.slice a_1 len_1 cap_1] ++ [Value.slice a_2 len_2 cap_2] ∧ (Lit.int .i64 n_0).wf = true ∧ (∀ x ∈ bs_1, R8 x) ∧ bs_1.length ≤ 9223372036854775807 ∧ SliceAt W (.slice a_1 len_1 cap_1) .u8 bs_1 ∧ (∀ r ∈ rs_2, ∀ x ∈ r, R8 x) ∧ rs_2.length ≤ 9223372036854775807 ∧ RowsAt W (.slice a_2 len_2 cap_2) rs_2 := by
  obtain ⟨xs, n, _, _, hc, hl, hel⟩ := DataW.trod_struct Tryd.underlying25 h
  have cN : Tryd.prog.cellsOf 25 = 3 := by kernel_rfl
  rw [cN] at hc
  have hl4 : xs.length = 3 := hl
  have h0 : DataW.trod enc Tryd.prog W 0 (fun _ => true) true n 3 ((cs.drop 0).take (Tryd.prog.cellsOf 3)) = xs[0]? := hel 0 _ rfl
  rw [List.getElem?_eq_getElem (by omega), show Tryd.prog.cellsOf 3 = 1 by kernel_rfl] at h0
  obtain ⟨n_0, e0, _, w_0⟩ := DataW.trod_int Tryd.underlying3 h0
  have h1 : DataW.trod enc Tryd.prog W 0 (fun _ => true) true n 22 ((cs.drop 1).take (Tryd.prog.cellsOf 22)) = xs[1]? := hel 1 _ rfl
  rw [List.getElem?_eq_getElem (by omega), show Tryd.prog.cellsOf 22 = 1 by kernel_rfl] at h1
  obtain ⟨a_1, len_1, cap_1, e1⟩ := slice_form Tryd.underlying22 h1
  rw [e1] at h1
  obtain ⟨bs_1, hb_1, hl_1, hs_1⟩ := s8_of_trod (enc := enc) (a := a_1) (len := len_1) (cap := cap_1) (d := xs[1].1) (p := xs[1].2) ⟨n, by simpa [Value.cells] using h1⟩
  have h2 : DataW.trod enc Tryd.prog W 0 (fun _ => true) true n 23 ((cs.drop 2).take (Tryd.prog.cellsOf 23)) = xs[2]? := hel 2 _ rfl
  rw [List.getElem?_eq_getElem (by omega), show Tryd.prog.cellsOf 23 = 1 by kernel_rfl] at h2
  obtain ⟨a_2, len_2, cap_2, e2⟩ := slice_form Tryd.underlying23 h2
  rw [e2] at h2
  obtain ⟨rs_2, hb_2, hl_2, hs_2⟩ := ss8_of_trod (enc := enc) (a := a_2) (len := len_2) (cap := cap_2) (d := xs[2].1) (p := xs[2].2) ⟨n, by simpa [Value.cells] using h2⟩
  refine ⟨n_0, a_1, len_1, cap_1, bs_1, a_2, len_2, cap_2, rs_2, ?_, w_0, hb_1, hl_1, hs_1, hb_2, hl_2, hs_2⟩
  have sp : cs = (cs.drop 0).take 1 ++ (cs.drop 1).take 1 ++ (cs.drop 2).take 1 := by
    have hz : cs.drop 3 = [] := List.drop_eq_nil_of_le (by omega)
    have t3 : cs.drop 3 = [] := hz
    have t2 : cs.drop 2 = (cs.drop 2).take 1 := by
      have := drop_cut cs 2 1
      rwa [t3, List.append_nil] at this
    have t1 : cs.drop 1 = ((cs.drop 1).take 1 ++ (cs.drop 2).take 1) := by
      have := drop_cut cs 1 1
      rwa [t2] at this
    have t0 : cs.drop 0 = ((cs.drop 0).take 1 ++ ((cs.drop 1).take 1 ++ (cs.drop 2).take 1)) := by
      have := drop_cut cs 0 1
      rwa [t1] at this
    rw [List.drop_zero] at t0
    refine t0.trans ?_
    simp only [List.append_assoc, List.drop_zero]
  rw [sp, e0, e1, e2]
theorem parts06_of_trod {H : Type} {enc : TypeId × Value → H} {W : World} {base : Nat} {v : Value} {d : DataW H} {p : List MemPlace} (hv : Value.okWide Tryd.prog W .any base 25 v)
    (h : DataW.Trod enc Tryd.prog W 0 (fun _ => true) true 25 v d p) : ∃ (n_0 : Int) (a_1 : Option Addr) (len_1 : Nat) (cap_1 : Nat) (bs_1 : List Int) (a_2 : Option Addr) (len_2 : Nat) (cap_2 : Nat) (rs_2 : List (List Int)), v = .agg ([Value.int .i64 n_0] ++ [Value.slice a_1 len_1 cap_1] ++ [Value.slice a_2 len_2 cap_2]).toArray ∧ (Lit.int .i64 n_0).wf = true ∧ (∀ x ∈ bs_1, R8 x) ∧ bs_1.length ≤ 9223372036854775807 ∧ SliceAt W (.slice a_1 len_1 cap_1) .u8 bs_1 ∧ (∀ r ∈ rs_2, ∀ x ∈ r, R8 x) ∧ rs_2.length ≤ 9223372036854775807 ∧ RowsAt W (.slice a_2 len_2 cap_2) rs_2 := by
  obtain ⟨cs, rfl⟩ : ∃ cs, v = .agg cs := by
    unfold Value.okWide at hv
    rw [Tryd.underlying25] at hv
    cases v <;> simp_all
  obtain ⟨fuel, hf⟩ := h
  obtain ⟨n_0, a_1, len_1, cap_1, bs_1, a_2, len_2, cap_2, rs_2, e, hh⟩ := parts06_cells hf
  simp only [Value.cells] at e
  exact ⟨n_0, a_1, len_1, cap_1, bs_1, a_2, len_2, cap_2, rs_2, by rw [← e], hh⟩

end Go.Proofs.YtenjcieaoedfaaaDoor
