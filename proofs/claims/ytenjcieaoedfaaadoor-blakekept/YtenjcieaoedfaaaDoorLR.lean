/- Own: how an argument that is a row of rows of bytes is opened (no statement is proved here). -/
import Derived.Test.YtenjcieaoedfaaaDoorL0
import Derived.Test.YtenjcieaoedfaaaDoorW0
namespace Go.Proofs.YtenjcieaoedfaaaDoor
open Go.ChangeShapes Go.WideShapes Go.ChangeAt Go.RowKit Go.Joins Ab
set_option maxRecDepth 4000
theorem s8_of_trod {H : Type} {enc : TypeId × Value → H} {W : World} {a : Option Addr} {len cap : Nat} {d : DataW H} {p : List MemPlace}
    (h : DataW.Trod enc Tryd.prog W 0 (fun _ => true) true 22 (.slice a len cap) d p) : ∃ bs : List Int, (∀ x ∈ bs, R8 x) ∧ bs.length ≤ 9223372036854775807 ∧ SliceAt W (.slice a len cap) .u8 bs := by
  obtain ⟨fuel, hf⟩ := h
  rcases open_ints Tryd.underlying22 Tryd.underlying5 (by kernel_rfl) hf with ⟨hcs, _⟩ | ⟨x, l, c, zs, hcs, hx, hl, hm, hz, _, hcell, hwz⟩
  · simp [Value.cells] at hcs
    obtain ⟨rfl, rfl, rfl⟩ := hcs
    exact ⟨[], (fun x hx => by cases hx), by decide, none, 0, rfl, Nat.le_refl _, .inl rfl⟩
  · simp [Value.cells] at hcs
    obtain ⟨rfl, rfl, rfl⟩ := hcs
    unfold maxLen at hm
    have hz : zs.length = cap := by simpa using hz
    have hlen : (zs.take len).length = len := by simp; omega
    refine ⟨zs.take len, fun y hy => ?_, by omega, _, cap, by rw [hlen], by omega, ?_⟩
    · have := bounds_u8 (hwz y (List.mem_of_mem_take hy))
      unfold R8; omega
    by_cases h0 : len = 0
    · exact .inl (by subst h0; simp)
    · obtain ⟨b, off, rfl, hc⟩ := ints_at hcell (by omega)
      refine .inr ⟨b, off, rfl, fun i y hi => ?_⟩
      have hil : i < len := by
        have := (List.getElem?_eq_some_iff.1 hi).1
        omega
      rw [hc i (by omega)]
      rw [List.getElem?_take_of_lt hil] at hi
      rw [List.getD_eq_getElem?_getD, hi]
      rfl

/-- A row of rows lies in the world. -/
def RowsAt (W : World) (v : Value) (rs : List (List Int)) : Prop :=
  ∃ a cap, v = .slice a rs.length cap ∧ rs.length ≤ cap ∧ (rs = [] ∨ ∃ b off : Nat, a = some ⟨b, off, none⟩ ∧ ∀ i r, rs[i]? = some r → ∃ a' c', W.cell? ⟨b, off + i, none⟩ = some (.slice a' r.length c') ∧ SliceAt W (.slice a' r.length c') .u8 r)
def locR : Value → Ab.Loc
  | .slice (some ⟨b, off, _⟩) _ _ => ⟨b, off, 0⟩
  | _ => ⟨0, 0, 0⟩
theorem locR_c (v : Value) : (locR v).c = 0 := by unfold locR; split <;> rfl
theorem RowsAt.rel {W : World} {v : Value} {rs : List (List Int)} (h : RowsAt W v rs) {ρ : Rho} {j : Nat} (hj : ρ j = some (locR v)) : Rel ρ (.sv j 0 rs.length) v := by
  obtain ⟨a, cap, rfl, hc, h⟩ := h
  rcases h with rfl | ⟨b, off, rfl, _⟩
  · exact .svn
  · exact .sv (l := ⟨b, off, 0⟩) hj hc
theorem RowsAt.view {W : World} {v : Value} {rs : List (List Int)} (_ : RowsAt W v rs) {ρ : Rho} {j : Nat} (hj : ρ j = some (locR v)) : BRel ρ W j (.rows (cellsR rs)) := ⟨_, hj, locR_c v⟩
theorem RowsAt.old {W : World} {v : Value} {rs : List (List Int)} (h : RowsAt W v rs) {ρ : Rho} {j : Nat} (hj : ρ j = some (locR v)) : OldB W (fun _ => False) ρ j (.rows (cellsR rs)) := by
  refine ⟨_, hj, ?_⟩
  obtain ⟨a, cap, rfl, hc, h⟩ := h
  by_cases hr : rs = []
  · subst hr; exact .inl rfl
  rcases h with h | ⟨b, off, rfl, h⟩
  · exact absurd h hr
  have hlt : b < W.heap.size := by
    cases rs with
    | nil => exact absurd rfl hr
    | cons r l =>
      obtain ⟨a', c', g, _⟩ := h 0 r rfl
      exact World.block_lt_of_cell? _ _ g
  refine .inr ⟨hlt, fun h => h, fun i cs hi => ?_⟩
  unfold cellsR at hi
  rw [List.getElem?_map] at hi
  cases hri : rs[i]? with
  | none => rw [hri] at hi; cases hi
  | some r =>
    rw [hri] at hi
    cases hi
    obtain ⟨a', c', g1, a2, cap2, g2, g3, g4⟩ := h i r hri
    cases g2
    refine ⟨a', c', by rw [List.length_map]; exact g1, by rw [List.length_map]; exact g3, ?_⟩
    rcases g4 with g4 | ⟨b2, off2, g5, g6⟩
    · exact .inl (by rw [g4]; rfl)
    · by_cases hr0 : r = []
      · exact .inl (by rw [hr0]; rfl)
      · refine .inr ⟨b2, off2, g5, .inr ⟨?_, fun h => h, fun q v hv => ?_⟩⟩
        · cases r with
          | nil => exact absurd rfl hr0
          | cons x l => exact World.block_lt_of_cell? _ _ (g6 0 x rfl)
        · rw [List.getElem?_map] at hv
          cases hq : r[q]? with
          | none => rw [hq] at hv; cases hv
          | some x => rw [hq] at hv; cases hv; exact g6 q x hq
theorem at_add (b o k : Nat) : (⟨b, o, none⟩ : Addr).add k = ⟨b, o + k, none⟩ := by
  unfold Addr.add
  split
  · rename_i h; rw [h]; rfl
  · rfl
theorem ss8_of_trod {H : Type} {enc : TypeId × Value → H} {W : World} {a : Option Addr} {len cap : Nat} {d : DataW H} {p : List MemPlace}
    (h : DataW.Trod enc Tryd.prog W 0 (fun _ => true) true 23 (.slice a len cap) d p) : ∃ rs : List (List Int), (∀ r ∈ rs, ∀ x ∈ r, R8 x) ∧ rs.length ≤ 9223372036854775807 ∧ RowsAt W (.slice a len cap) rs := by
  obtain ⟨fuel, hf⟩ := h
  rcases DataW.trod_slice Tryd.underlying23 hf with ⟨hcs, _⟩ | ⟨x, l, c, elems, rest, n, _, hcs, _, _, hlc, hcm, hl, hel, _, _⟩
  · simp [Value.cells] at hcs
    obtain ⟨rfl, rfl, rfl⟩ := hcs
    exact ⟨[], (fun r hr => by cases hr), by decide, none, 0, rfl, Nat.le_refl _, .inl rfl⟩
  · simp [Value.cells] at hcs
    obtain ⟨rfl, rfl, rfl⟩ := hcs
    have hm : cap ≤ 9223372036854775807 := by unfold maxLen at hcm; omega
    by_cases h0 : len = 0
    · subst h0
      exact ⟨[], (fun r hr => by cases hr), by decide, _, cap, rfl, hlc, .inl rfl⟩
    have hN : Tryd.prog.cellsOf 22 = 1 := by kernel_rfl
    have key : ∀ i, i < len → ∃ (a' : Option Addr) (l' c' : Nat) (r : List Int), W.cell? (x.add i) = some (.slice a' l' c') ∧ (∀ y ∈ r, R8 y) ∧ r.length = l' ∧ SliceAt W (.slice a' l' c') .u8 r := by
      intro i hi
      have hE' := hel i hi
      rw [hN, Nat.mul_one, List.getElem?_eq_getElem (by omega), Option.bind_eq_some_iff] at hE'
      obtain ⟨cs, h1, h2⟩ := hE'
      obtain ⟨a', l', c', e⟩ := slice_form Tryd.underlying22 h2
      rw [e] at h1 h2
      obtain ⟨r, hb, hlr, hs⟩ := s8_of_trod (enc := enc) (a := a') (len := l') (cap := c') (d := (elems[i]).1) (p := (elems[i]).2) ⟨n, by simpa [Value.cells] using h2⟩
      have hcell := (World.cells?_some h1).2.2 0 (by omega)
      refine ⟨a', l', c', r, ?_, hb, ?_, hs⟩
      · simpa [Addr.add] using hcell
      · obtain ⟨_, _, e2, _⟩ := hs; cases e2; rfl
    obtain ⟨b, off, spot⟩ := x
    have hspot : spot = none := by
      obtain ⟨a', l', c', r, h1, _⟩ := key 0 (by omega)
      have := World.cell?_spot h1
      simpa [Addr.add] using this
    subst hspot
    have key' : ∀ i, ∃ r : List Int, i < len → ∃ (a' : Option Addr) (c' : Nat), W.cell? ⟨b, off + i, none⟩ = some (.slice a' r.length c') ∧ (∀ y ∈ r, R8 y) ∧ SliceAt W (.slice a' r.length c') .u8 r := fun i => by
      by_cases hi : i < len
      · obtain ⟨a', l', c', r, h1, h2, h3, h4⟩ := key i hi
        rw [at_add] at h1
        subst h3
        exact ⟨r, fun _ => ⟨a', c', h1, h2, h4⟩⟩
      · exact ⟨[], fun h => absurd h hi⟩
    let f : Nat → List Int := fun i => Classical.choose (key' i)
    have hf' : ∀ i, i < len → ∃ (a' : Option Addr) (c' : Nat), W.cell? ⟨b, off + i, none⟩ = some (.slice a' (f i).length c') ∧ (∀ y ∈ f i, R8 y) ∧ SliceAt W (.slice a' (f i).length c') .u8 (f i) := fun i hi => Classical.choose_spec (key' i) hi
    refine ⟨(List.range len).map f, fun r hr => ?_, by rw [List.length_map, List.length_range]; omega, some ⟨b, off, none⟩, cap, by rw [List.length_map, List.length_range], by rw [List.length_map, List.length_range]; exact hlc, .inr ⟨b, off, rfl, fun i r hi => ?_⟩⟩
    · obtain ⟨i, hi, rfl⟩ := List.mem_map.1 hr
      obtain ⟨_, _, _, h2, _⟩ := hf' i (by simpa using hi)
      exact h2
    · have hi' : i < len := by
        have := (List.getElem?_eq_some_iff.1 hi).1
        simpa using this
      rw [List.getElem?_map, List.getElem?_range hi', Option.map_some] at hi
      cases hi
      obtain ⟨a', c', h1, _, h3⟩ := hf' i hi'
      exact ⟨a', c', h1, h3⟩
end Go.Proofs.YtenjcieaoedfaaaDoor
