/- Own: how an argument that is a row of arrays of bytes is opened (no statement is proved here). -/
import Derived.Test.YtdeobbgkfhnhlaaL0
namespace Go.Proofs.Ytdeobbgkfhnhlaa
open Go.ChangeShapes Go.WideShapes Go.ChangeAt Go.RowKit Go.Joins Ab
set_option maxRecDepth 4000
/-- A slice of n things lies in the world, and its cells hold these numbers. -/
def SliceN (W : World) (v : Value) (n : Nat) (bs : List Int) : Prop :=
  ∃ a cap, v = .slice a n cap ∧ n ≤ cap ∧ (n = 0 → bs = []) ∧ (bs = [] ∨ ∃ b off : Nat, a = some ⟨b, off, none⟩ ∧ ∀ i x, bs[i]? = some x → W.cell? ⟨b, off + i, none⟩ = some (.int .u8 x))
theorem SliceN.rel {W : World} {v : Value} {n : Nat} {bs : List Int} (h : SliceN W v n bs) (h0 : bs = [] → n = 0) {ρ : Rho} {j : Nat} (hj : ρ j = some (locOf v)) : Rel ρ (.sv j 0 n) v := by
  obtain ⟨a, cap, rfl, hc, hz, h⟩ := h
  rcases h with h | ⟨b, off, rfl, h⟩
  · obtain rfl := h0 h
    exact .svn
  · cases n with
    | zero => exact .svn
    | succ n => exact .sv hj hc
theorem SliceN.view {W : World} {v : Value} {n : Nat} {bs : List Int} (h : SliceN W v n bs) (h0 : bs = [] → n = 0) {ρ : Rho} {j : Nat} (hj : ρ j = some (locOf v)) : BRel ρ W j (.view (bs.map (Value.int .u8))) := by
  obtain ⟨a, cap, rfl, hc, hz, h⟩ := h
  by_cases hb : bs = []
  · obtain rfl := h0 hb
    subst hb
    refine ⟨_, hj, .inl ⟨?_, rfl⟩⟩
    unfold locOf
    split
    · rename_i e; cases e
    · rfl
  · rcases h with h | ⟨b, off, rfl, h⟩
    · exact absurd h hb
    · cases n with
      | zero => exact absurd (hz rfl) hb
      | succ n =>
        refine ⟨_, hj, .inr ⟨by simp [locOf], by simpa using hb, fun i v hv => ?_⟩⟩
        rw [List.getElem?_map] at hv
        cases hi : bs[i]? with
        | none => rw [hi] at hv; cases hv
        | some x => rw [hi] at hv; cases hv; exact h i x hi
theorem at_add (b o k : Nat) : (⟨b, o, none⟩ : Addr).add k = ⟨b, o + k, none⟩ := by
  unfold Addr.add
  split
  · rename_i h; rw [h]; rfl
  · rfl
theorem at_cells {H : Type} {enc : TypeId × Value → H} {W : World} {sp : Nat → Bool} {hd : Bool} {m : Nat} {cs : List Value} {x : DataW H × List MemPlace} (h : DataW.trod enc Try.prog W 0 sp hd m 22 cs = some x) : cs.length = 16 ∧ ∀ r, r < 16 → ∃ z : Int, cs[r]? = some (.int .u8 z) ∧ R8 z := by
  obtain ⟨xs, m1, _, ex, hc, hl, hel⟩ := DataW.trod_array Try.underlying22 h
  have c5 : Try.prog.cellsOf 5 = 1 := by kernel_rfl
  have c16 : Try.prog.cellsOf 22 = 16 := by kernel_rfl
  rw [c16] at hc
  refine ⟨hc, fun r hr => ?_⟩
  have hE := hel r hr
  rw [c5, Nat.mul_one, List.getElem?_eq_getElem (by omega)] at hE
  obtain ⟨z, e1, _, wz⟩ := DataW.trod_int Try.underlying5 hE
  have bz := bounds_u8 wz
  have h0 : ((cs.drop r).take 1)[0]? = some (.int .u8 z) := by rw [e1]; rfl
  exact ⟨z, by simpa using h0, by unfold R8; omega⟩
theorem at2_cells {H : Type} {enc : TypeId × Value → H} {W : World} {sp : Nat → Bool} {hd : Bool} {m : Nat} {cs : List Value} {x : DataW H × List MemPlace} (h : DataW.trod enc Try.prog W 0 sp hd m 37 cs = some x) : cs.length = 32 ∧ ∀ r, r < 32 → ∃ z : Int, cs[r]? = some (.int .u8 z) ∧ R8 z := by
  obtain ⟨xs, m1, _, ex, hc, hl, hel⟩ := DataW.trod_array Try.underlying37 h
  have c5 : Try.prog.cellsOf 22 = 16 := by kernel_rfl
  have c16 : Try.prog.cellsOf 37 = 32 := by kernel_rfl
  rw [c16] at hc
  refine ⟨hc, fun r hr => ?_⟩
  have hE := hel (r / 16) (by omega)
  rw [c5, List.getElem?_eq_getElem (by omega)] at hE
  obtain ⟨z, h1, h2⟩ := (at_cells hE).2 (r % 16) (by omega)
  refine ⟨z, ?_, h2⟩
  rw [List.getElem?_take, if_pos (by omega), List.getElem?_drop] at h1
  rw [← h1]; congr 1; omega
theorem rows_of_trod {H : Type} {enc : TypeId × Value → H} {W : World} {a : Option Addr} {len cap : Nat} {d : DataW H} {p : List MemPlace} {T E N : Nat} (hT : Try.prog.underlying T = some (.slice E)) (hN : Try.prog.cellsOf E = N) (hN0 : 0 < N)
    (hE : ∀ {sp : Nat → Bool} {hd : Bool} {m : Nat} {cs : List Value} {x : DataW H × List MemPlace}, DataW.trod enc Try.prog W 0 sp hd m E cs = some x → cs.length = N ∧ ∀ r, r < N → ∃ z : Int, cs[r]? = some (.int .u8 z) ∧ R8 z)
    (h : DataW.Trod enc Try.prog W 0 (fun _ => true) true T (.slice a len cap) d p) : ∃ bs : List Int, (∀ x ∈ bs, R8 x) ∧ bs.length = N * len ∧ SliceN W (.slice a len cap) len bs := by
  obtain ⟨fuel, hf⟩ := h
  rcases DataW.trod_slice hT hf with ⟨hcs, _⟩ | ⟨x, l, c, elems, rest, n, _, hcs, _, _, hlc, hcm, hl, hel, _, _⟩
  · simp [Value.cells] at hcs
    obtain ⟨rfl, rfl, rfl⟩ := hcs
    exact ⟨[], (fun x hx => by cases hx), by simp, none, 0, rfl, Nat.le_refl _, fun _ => rfl, .inl rfl⟩
  · simp [Value.cells] at hcs
    obtain ⟨rfl, rfl, rfl⟩ := hcs
    by_cases h0 : len = 0
    · subst h0
      exact ⟨[], (fun x hx => by cases hx), by simp, _, cap, rfl, hlc, fun _ => rfl, .inl rfl⟩
    have key : ∀ i, i < len → ∀ j, j < N → ∃ z : Int, W.cell? ((x.add (i * N)).add j) = some (.int .u8 z) ∧ R8 z := by
      intro i hi j hj
      have hE' := hel i hi
      rw [hN, List.getElem?_eq_getElem (by omega), Option.bind_eq_some_iff] at hE'
      obtain ⟨cs, h1, h2⟩ := hE'
      obtain ⟨hcl, hz⟩ := hE h2
      obtain ⟨z, g1, g2⟩ := hz j hj
      exact ⟨z, ((World.cells?_some h1).2.2 j hj).trans g1, g2⟩
    obtain ⟨b, off, spot⟩ := x
    have hspot : spot = none := by
      obtain ⟨z, h1, _⟩ := key 0 (by omega) 0 hN0
      have := World.cell?_spot h1
      simpa [Addr.add] using this
    subst hspot
    have key' : ∀ r, r < N * len → ∃ z : Int, W.cell? ⟨b, off + r, none⟩ = some (.int .u8 z) ∧ R8 z := fun r hr => by
      have hd : r / N < len := Nat.div_lt_of_lt_mul hr
      obtain ⟨z, h1, h2⟩ := key (r / N) hd (r % N) (Nat.mod_lt _ hN0)
      refine ⟨z, ?_, h2⟩
      have e : off + r / N * N + r % N = off + r := by
        have := Nat.div_add_mod' r N
        omega
      rw [at_add, at_add] at h1
      rw [← e]; exact h1
    have hzz : ∀ r, r < N * len → W.cell? ⟨b, off + r, none⟩ = some (.int .u8 (match W.cell? ⟨b, off + r, none⟩ with | some (.int _ z) => z | _ => 0)) ∧ R8 (match W.cell? ⟨b, off + r, none⟩ with | some (.int _ z) => z | _ => 0) := fun r hr => by
      obtain ⟨z, h1, h2⟩ := key' r hr
      rw [h1]; exact ⟨rfl, h2⟩
    refine ⟨(List.range (N * len)).map (fun r => match W.cell? ⟨b, off + r, none⟩ with | some (.int _ z) => z | _ => 0), fun y hy => ?_, by simp, _, cap, rfl, hlc, fun h => absurd h h0, .inr ⟨b, off, rfl, fun i y hi => ?_⟩⟩
    · obtain ⟨r, hr, rfl⟩ := List.mem_map.1 hy
      exact (hzz r (by simpa using hr)).2
    · have hi' : i < N * len := by
        have := (List.getElem?_eq_some_iff.1 hi).1
        simpa using this
      rw [List.getElem?_map, List.getElem?_range hi', Option.map_some] at hi
      injection hi with hi
      rw [← hi]
      exact (hzz i hi').1
theorem sa16_of_trod {H : Type} {enc : TypeId × Value → H} {W : World} {a : Option Addr} {len cap : Nat} {d : DataW H} {p : List MemPlace}
    (h : DataW.Trod enc Try.prog W 0 (fun _ => true) true 45 (.slice a len cap) d p) : ∃ bs : List Int, (∀ x ∈ bs, R8 x) ∧ bs.length = 16 * len ∧ SliceN W (.slice a len cap) len bs :=
  rows_of_trod Try.underlying45 (by kernel_rfl) (by decide) (fun h => at_cells h) h
theorem sa32_of_trod {H : Type} {enc : TypeId × Value → H} {W : World} {a : Option Addr} {len cap : Nat} {d : DataW H} {p : List MemPlace}
    (h : DataW.Trod enc Try.prog W 0 (fun _ => true) true 35 (.slice a len cap) d p) : ∃ bs : List Int, (∀ x ∈ bs, R8 x) ∧ bs.length = 32 * len ∧ SliceN W (.slice a len cap) len bs :=
  rows_of_trod Try.underlying35 (by kernel_rfl) (by decide) (fun h => at2_cells h) h
end Go.Proofs.Ytdeobbgkfhnhlaa
