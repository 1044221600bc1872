/- Own: how an argument that is a row of keys is opened (no statement is proved here). -/
import Derived.Test.YtejhnpgolpjleaaDoorLiftT
import Derived.Test.YtejhnpgolpjleaaDoorTRounds
namespace Go.Proofs.YtejhnpgolpjleaaDoor
open Go.ChangeShapes Go.WideShapes Go.ChangeAt Go.RowKit

theorem arr16_cells {H : Type} {enc : TypeId × Value → H} {W : World} {sp : Nat → Bool} {hd : Bool} {m : Nat} {cs : List Value} {x : DataW H × List MemPlace} (h : DataW.trod enc Tryd.prog W 0 sp hd m 22 cs = some x) : ∃ bs : List UInt8, bs.length = 16 ∧ cs = bcells bs := by
  obtain ⟨xs, m1, _, ex, hc, hl, hel⟩ := DataW.trod_array Tryd.underlying22 h
  have c5 : Tryd.prog.cellsOf 5 = 1 := by kernel_rfl
  have c16 : Tryd.prog.cellsOf 22 = 16 := by kernel_rfl
  rw [c16] at hc
  have key : ∀ r, r < cs.length → ∃ b : UInt8, cs[r]? = some (.int .u8 (b.toNat : Int)) := by
    intro r hr
    have hE := hel r (by omega)
    rw [c5, Nat.mul_one, List.getElem?_eq_getElem (by omega)] at hE
    obtain ⟨z, e1, _, wz⟩ := DataW.trod_int Tryd.underlying5 hE
    have bz := bounds_u8 wz
    have h0 : ((cs.drop r).take 1)[0]? = some (.int .u8 z) := by rw [e1]; rfl
    refine ⟨UInt8.ofNat z.toNat, ?_⟩
    have e : ((UInt8.ofNat z.toNat).toNat : Int) = z := by
      rw [UInt8.toNat_ofNat', Nat.mod_eq_of_lt (by omega)]; omega
    rw [e]
    simpa using h0
  have : ∀ (l : List Value), (∀ r, r < l.length → ∃ b : UInt8, l[r]? = some (.int .u8 (b.toNat : Int))) → ∃ bs, l = bcells bs := by
    intro l
    induction l with
    | nil => intro _; exact ⟨[], rfl⟩
    | cons a l ih =>
      intro h
      obtain ⟨b, hb⟩ := h 0 (by simp)
      obtain ⟨bs, rfl⟩ := ih (fun r hr => by simpa using h (r + 1) (by simp; omega))
      simp at hb
      exact ⟨b :: bs, by rw [hb]; rfl⟩
  obtain ⟨bs, hbs⟩ := this cs key
  exact ⟨bs, by rw [← length_bcells, ← hbs]; exact hc, hbs⟩
theorem isK_of_trod {H : Type} {enc : TypeId × Value → H} {W : World} {a : Option Addr} {len cap : Nat} {d : DataW H} {p : List MemPlace}
    (h : DataW.Trod enc Tryd.prog W 0 (fun _ => true) true 34 (.slice a len cap) d p) : ∃ ks : Nat → Nat → Nat, IsK W (.slice a len cap) len ks := by
  obtain ⟨fuel, hf⟩ := h
  have c16 : Tryd.prog.cellsOf 22 = 16 := by kernel_rfl
  rcases DataW.trod_slice Tryd.underlying34 hf with ⟨hcs, _⟩ | ⟨x, l, c, elems, rest, n, _, hcs, _, _, _, _, hl, hel, _, _⟩
  · simp [Value.cells] at hcs
    obtain ⟨rfl, rfl, rfl⟩ := hcs
    exact ⟨fun _ _ => 0, fun _ _ => Nat.zero_lt_succ _, _, _, rfl, .inl rfl⟩
  · simp [Value.cells] at hcs
    obtain ⟨rfl, rfl, rfl⟩ := hcs
    by_cases h0 : len = 0
    · exact ⟨fun _ _ => 0, fun _ _ => Nat.zero_lt_succ _, _, _, rfl, .inl h0⟩
    have key : ∀ i, i < len → ∃ bs : List UInt8, bs.length = 16 ∧ ∀ j, j < 16 → W.cell? ((x.add (i * 16)).add j) = (bcells bs)[j]? := by
      intro i hi
      have hE := hel i hi
      rw [c16, List.getElem?_eq_getElem (by omega), Option.bind_eq_some_iff] at hE
      obtain ⟨cs, h1, h2⟩ := hE
      obtain ⟨bs, hb, rfl⟩ := arr16_cells h2
      exact ⟨bs, hb, fun j hj => (World.cells?_some h1).2.2 j hj⟩
    obtain ⟨b, off, spot⟩ := x
    have hspot : spot = none := by
      obtain ⟨bs, hb, h1⟩ := key 0 (by omega)
      have h2 := h1 0 (by decide)
      rw [bcells_get bs 0 (by omega)] at h2
      have := World.cell?_spot h2
      simpa [Addr.add] using this
    subst hspot
    have key' : ∀ i, i < len → ∃ bs : List UInt8, bs.length = 16 ∧ ∀ j, j < 16 → W.cell? ⟨b, off + i * 16 + j, none⟩ = (bcells bs)[j]? := fun i hi => by
      obtain ⟨bs, hb, h1⟩ := key i hi
      refine ⟨bs, hb, fun j hj => ?_⟩
      have h2 := h1 j hj
      rw [addr_add, addr_add] at h2
      exact h2
    refine ⟨fun i => if h : i < len then lf (Classical.choose (key' i h)) else fun _ => 0, fun i => ?_, _, _, rfl, .inr ⟨b, off, rfl, fun i hi j v hj => ?_⟩⟩
    · by_cases h : i < len
      · simp only [h, dif_pos]; exact lf_byt _
      · simp only [h, dif_neg, not_false_eq_true]; exact zero_byt
    · simp only [hi, dif_pos] at hj
      obtain ⟨hb, h1⟩ := Classical.choose_spec (key' i hi)
      have hj16 : j < 16 := by
        have := (List.getElem?_eq_some_iff.1 hj).1
        rw [bc_len] at this; exact this
      rw [h1 j hj16, bcells_bc, hb]
      exact hj
end Go.Proofs.YtejhnpgolpjleaaDoor
