/- Own: how a key of layer 4's statements is opened (no statement is proved here). -/
import Derived.Test.YtplcboblokgihaaDoorLiftT
import Derived.Test.YtplcboblokgihaaDoorAesBackCore
namespace Go.Proofs.YtplcboblokgihaaDoor
open Go.ChangeShapes Go.WideShapes Go.ChangeAt Go.RowKit Go.Joins

theorem arr32_cells {H : Type} {enc : TypeId × Value → H} {W : World} {sp : Nat → Bool} {hd : Bool} {m : Nat} {cs : List Value} {x : DataW H × List MemPlace} (h : DataW.trod enc Tryd.prog W 0 sp hd m 41 cs = some x) : ∃ bs : List UInt8, bs.length = 32 ∧ cs = bcells bs := by
  obtain ⟨xs, m1, _, ex, hc, hl, hel⟩ := DataW.trod_array Tryd.underlying41 h
  have c5 : Tryd.prog.cellsOf 5 = 1 := by kernel_rfl
  have c16 : Tryd.prog.cellsOf 41 = 32 := by kernel_rfl
  rw [c16] at hc
  have key : ∀ r, r < cs.length → ∃ b : UInt8, cs[r]? = some (.int .u8 (b.toNat : Int)) := by
    intro r hr
    have hE := hel r (by omega)
    rw [c5, Nat.mul_one, List.getElem?_eq_getElem (by omega)] at hE
    obtain ⟨z, e1, _, wz⟩ := DataW.trod_int Tryd.underlying5 hE
    have bz := bounds_u8 wz
    have h0 : ((cs.drop r).take 1)[0]? = some (.int .u8 z) := by rw [e1]; rfl
    refine ⟨UInt8.ofNat z.toNat, ?_⟩
    have e : ((UInt8.ofNat z.toNat).toNat : Int) = z := by
      rw [UInt8.toNat_ofNat', Nat.mod_eq_of_lt (by omega)]; omega
    rw [e]
    simpa using h0
  have : ∀ (l : List Value), (∀ r, r < l.length → ∃ b : UInt8, l[r]? = some (.int .u8 (b.toNat : Int))) → ∃ bs, l = bcells bs := by
    intro l
    induction l with
    | nil => intro _; exact ⟨[], rfl⟩
    | cons a l ih =>
      intro h
      obtain ⟨b, hb⟩ := h 0 (by simp)
      obtain ⟨bs, rfl⟩ := ih (fun r hr => by simpa using h (r + 1) (by simp; omega))
      simp at hb
      exact ⟨b :: bs, by rw [hb]; rfl⟩
  obtain ⟨bs, hbs⟩ := this cs key
  exact ⟨bs, by rw [← length_bcells, ← hbs]; exact hc, hbs⟩
theorem key_of_trod {H : Type} {enc : TypeId × Value → H} {W : World} {base : Nat} {v : Value} {d : DataW H} {p : List MemPlace} (hv : Value.okWide Tryd.prog W .any base 43 v)
    (h : DataW.Trod enc Tryd.prog W 0 (fun _ => true) true 43 v d p) : ∃ bs : List UInt8, bs.length = 33 ∧ v = .agg (bcells bs).toArray := by
  obtain ⟨cs, rfl⟩ : ∃ cs, v = .agg cs := by
    unfold Value.okWide at hv
    rw [Tryd.underlying43] at hv
    cases v <;> simp_all
  obtain ⟨fuel, hf⟩ := h
  obtain ⟨xs, n, _, _, hc, hl, hel⟩ := DataW.trod_struct Tryd.underlying43 hf
  have c33 : Tryd.prog.cellsOf 43 = 33 := by kernel_rfl
  have c32 : Tryd.prog.cellsOf 41 = 32 := by kernel_rfl
  have c1 : Tryd.prog.cellsOf 5 = 1 := by kernel_rfl
  rw [c33] at hc
  simp only [Value.cells] at hc hel
  have hl2 : xs.length = 2 := hl
  have h0 : DataW.trod enc Tryd.prog W 0 (fun _ => true) true n 41 ((cs.toList.drop 0).take (Tryd.prog.cellsOf 41)) = xs[0]? := hel 0 _ rfl
  have h1 : DataW.trod enc Tryd.prog W 0 (fun _ => true) true n 5 ((cs.toList.drop 32).take (Tryd.prog.cellsOf 5)) = xs[1]? := hel 1 _ rfl
  rw [List.getElem?_eq_getElem (by omega)] at h0 h1
  rw [c32] at h0
  rw [c1] at h1
  obtain ⟨b0, l0, e0⟩ := arr32_cells h0
  obtain ⟨z1, e1, _, w1⟩ := DataW.trod_int Tryd.underlying5 h1
  have u1 := bounds_u8 w1
  have cast : ∀ z : Int, 0 ≤ z ∧ z ≤ 255 → [Value.int .u8 z] = bcells [UInt8.ofNat z.toNat] := fun z hz => by
    show _ = [Value.int .u8 ((UInt8.ofNat z.toNat).toNat : Int)]
    rw [UInt8.toNat_ofNat', Nat.mod_eq_of_lt (by omega)]
    congr 2; omega
  refine ⟨b0 ++ [UInt8.ofNat z1.toNat], by simp [l0], ?_⟩
  have hcl : cs.toList.length = 33 := by simpa using hc
  have parts : cs.toList = (cs.toList.drop 0).take 32 ++ (cs.toList.drop 32).take 1 := by
    generalize cs.toList = l at hcl
    have a1 : l.drop 32 = (l.drop 32).take 1 := by rw [List.take_of_length_le (by simp; omega)]
    have a4 : l = (l.drop 0).take 32 ++ l.drop 32 := (List.take_append_drop 32 l).symm
    rw [← a1, ← a4]
  have ap : ∀ a b : List UInt8, bcells (a ++ b) = bcells a ++ bcells b := fun a b => by unfold bcells; rw [List.map_append]
  have e : cs.toList = bcells (b0 ++ [UInt8.ofNat z1.toNat]) := by
    rw [ap, ← cast z1 u1, parts]
    exact congr (congrArg _ e0) e1
  rw [← e]
theorem zL_of (bs : List UInt8) (h : bs.length = 33) : bcells bs = zL (lf bs) (lf bs 32) := by
  rw [bcells_bc, h]
  show bc (32 + 1) (lf bs) = _
  rw [bc_split]; rfl
/-- What Expand makes of a key of the statements. -/
def kF (f : Nat → Nat) (s : Nat) : Nat → Nat := eb (lf (toB (zn s) f)) (zn s / 4) (4 * (nrnd (zn s) + 1) - zn s / 4)
theorem kF_byt (f : Nat → Nat) (s : Nat) : Byt (kF f s) := eb_byt (lf_byt _) _ _
theorem zn_rounds (s : Nat) : 0 < nrnd (zn s) ∧ nrnd (zn s) < 15 := by
  have h : s % 3 = 0 ∨ s % 3 = 1 ∨ s % 3 = 2 := by omega
  unfold zn
  rcases h with h | h | h <;> rw [h] <;> decide
theorem expand_z (f : Nat → Nat) (s g : Nat) (w' : World) (v : Value) (ht : IsTab w' g) (hv : IsB w' v (toB (zn s) f)) :
    Calls Tryd.prog 10 #[.pointer (some ⟨g, 0, none⟩), v] w' fun e w'' => (∃ q, e = .returned (.tuple #[.pointer (some ⟨q, 0, none⟩), .int .i64 0]) ∧ IsKey w'' q g (nrnd (zn s)) (kF f s) ∧ IsTab w'' g) ∧ Below w'.heap.size w' w'' := by
  refine (expand_any g v _ w' hv ht (nrnd (zn s)) (by rw [toB_len]) (by have := (zn_rounds s).1; omega)).mono ?_
  rintro e w'' ⟨rfl, hb, hk⟩
  rw [toB_len] at hk
  exact ⟨⟨_, rfl, hk, ht.later hb⟩, hb⟩
end Go.Proofs.YtplcboblokgihaaDoor
