/- Own: how an argument that is an array of sixteen bytes is opened; what the listed variables give a walk, and the world in which they lie so (no statement is proved here). -/
import Derived.Test.YtdfbcdgneboilaaDoorOG1
import Derived.OpenShut
import Derived.Lib.SmallJoins
import Derived.Test.YtdfbcdgneboilaaDoorOT2
import Derived.Test.YtdfbcdgneboilaaDoorTie
import Derived.Test.YtdfbcdgneboilaaDoorCards
import Derived.LaidMore
import Derived.ProofKit
import Derived.ChangeOld
import Derived.Stop.Joined
import Derived.SevenTiedAt
namespace Go.Proofs.YtdfbcdgneboilaaDoor
open Go.ChangeShapes Go.WideShapes Go.ChangeAt Go.RowKit Go.Joins
set_option maxRecDepth 20000

theorem arr16_of_trod {H : Type} {enc : TypeId × Value → H} {W : World} {base : Nat} {v : Value} {d : DataW H} {p : List MemPlace} (hv : Value.okWide Tryd.prog W .any base 45 v)
    (h : DataW.Trod enc Tryd.prog W 0 (fun _ => true) true 45 v d p) : ∃ bs : List UInt8, bs.length = 16 ∧ v = .agg (bcells bs).toArray := by
  obtain ⟨cs, rfl⟩ : ∃ cs, v = .agg cs := by
    unfold Value.okWide at hv
    rw [Tryd.underlying45] at hv
    cases v <;> simp_all
  obtain ⟨fuel, hf⟩ := h
  obtain ⟨xs, m, _, ex, hc, hl, hel⟩ := DataW.trod_array Tryd.underlying45 hf
  have c5 : Tryd.prog.cellsOf 5 = 1 := by kernel_rfl
  have c16 : Tryd.prog.cellsOf 45 = 16 := by kernel_rfl
  rw [c16] at hc
  simp only [Value.cells] at hc hel
  have hcl : cs.toList.length = 16 := by simpa using hc
  have key : ∀ r, r < 16 → ∃ b : UInt8, cs.toList[r]? = some (.int .u8 (b.toNat : Int)) := by
    intro r hr
    have hE := hel r hr
    rw [c5, Nat.mul_one, List.getElem?_eq_getElem (by omega)] at hE
    obtain ⟨z, e1, _, wz⟩ := DataW.trod_int Tryd.underlying5 hE
    have bz := bounds_u8 wz
    have h0 : ((cs.toList.drop r).take 1)[0]? = some (.int .u8 z) := by rw [e1]; rfl
    refine ⟨UInt8.ofNat z.toNat, ?_⟩
    have e : ((UInt8.ofNat z.toNat).toNat : Int) = z := by
      rw [UInt8.toNat_ofNat', Nat.mod_eq_of_lt (by omega)]; omega
    rw [e]
    simpa using h0
  have : ∀ (l : List Value), (∀ r, r < l.length → ∃ b : UInt8, l[r]? = some (.int .u8 (b.toNat : Int))) → ∃ bs, l = bcells bs := by
    intro l
    induction l with
    | nil => intro _; exact ⟨[], rfl⟩
    | cons a l ih =>
      intro h
      obtain ⟨b, hb⟩ := h 0 (by simp)
      obtain ⟨bs, rfl⟩ := ih (fun r hr => by simpa using h (r + 1) (by simp; omega))
      simp at hb
      exact ⟨b :: bs, by rw [hb]; rfl⟩
  obtain ⟨bs, hbs⟩ := this cs.toList (by rw [hcl]; exact key)
  refine ⟨bs, ?_, ?_⟩
  · rw [← length_bcells, ← hbs]; exact hcl
  · rw [← hbs]
end Go.Proofs.YtdfbcdgneboilaaDoor
namespace Go.Proofs.YtdfbcdgneboilaaDoor
open Go.ChangeShapes Go.WideShapes Go.ChangeAt Go.RowKit
set_option maxRecDepth 20000

/-- The two variables, as the rows list them. -/
def lay2 : List (String × DataW Unit) := [("wringer/turn.mixing", Rows.laid_wringer_turn_mixing), ("wringer/turn.unmixing", Rows.laid_wringer_turn_unmixing)]
theorem gMix : Tryd.prog.globalNamed "wringer/turn.mixing" = some 0 := by kernel_rfl
theorem gUn : Tryd.prog.globalNamed "wringer/turn.unmixing" = some 1 := by kernel_rfl
theorem tMix : (Tryd.prog.globals[0]?).map (·.type) = some 100 := by kernel_rfl
theorem tUn : (Tryd.prog.globals[1]?).map (·.type) = some 100 := by kernel_rfl
theorem door_met (os : Os) (args : Array Value) : laidMetH Tryd.prog lay2 ((World.doorLaid Tryd.prog 400 os).forCall (fun _ _ => 0) ⟨#[], args, []⟩).memory :=
  laidMetH_of_parts3 (fuel := 8) (laidMet_of_run' 8 (by kernel_rfl) (by kernel_rfl)) (by kernel_rfl) (by kernel_rfl)
theorem lit_cell {H : Type} {enc : TypeId × Value → H} {W : World} {sp : Nat → Bool} {hd : Bool} {m : Nat} {cs : List Value} {ds : List (DataW H)} {p : List MemPlace} (h : DataW.trod enc Tryd.prog W 0 sp hd m 62 cs = some (.agg ds, p)) (r : Nat) (hr : r < 4) (a : Int) (ha : ds[r]? = some (.lit (.int .u8 a))) : cs[r]? = some (.int .u8 a) := by
  obtain ⟨xs, m1, _, ex, _, hl, hel⟩ := DataW.trod_array Tryd.underlying62 h
  have c5 : Tryd.prog.cellsOf 5 = 1 := by kernel_rfl
  have hE := hel r hr
  rw [c5, Nat.mul_one, List.getElem?_eq_getElem (by omega)] at hE
  obtain ⟨k, e1, e2, _⟩ := DataW.trod_int Tryd.underlying5 hE
  have h1 : ds = xs.map (·.1) := by cases ex; rfl
  rw [h1, List.getElem?_map, List.getElem?_eq_getElem (by omega), e2] at ha
  have hk : k = a := by simpa using ha
  subst hk
  have h0 : ((cs.drop r).take 1)[0]? = some (.int .u8 k) := by rw [e1]; rfl
  simpa using h0
theorem quad_cell {H : Type} {enc : TypeId × Value → H} {W : World} {sp : Nat → Bool} {hd : Bool} {m : Nat} {cs : List Value} {ds : List (DataW H)} {p : List MemPlace} (h : DataW.trod enc Tryd.prog W 0 sp hd m 100 cs = some (.agg ds, p)) (i r : Nat) (hi : i < 4) (hr : r < 4) (es : List (DataW H)) (he : ds[i]? = some (.agg es)) (a : Int) (ha : es[r]? = some (.lit (.int .u8 a))) : cs[i * 4 + r]? = some (.int .u8 a) := by
  obtain ⟨xs, m1, _, ex, _, hl, hel⟩ := DataW.trod_array Tryd.underlying100 h
  have c4 : Tryd.prog.cellsOf 62 = 4 := by kernel_rfl
  have hE := hel i hi
  rw [c4, List.getElem?_eq_getElem (by omega)] at hE
  have h1 : ds = xs.map (·.1) := by cases ex; rfl
  rw [h1, List.getElem?_map, List.getElem?_eq_getElem (by omega)] at he
  rcases hx : xs[i]'(by omega) with ⟨d, q⟩
  rw [hx] at he hE
  have hd' : d = .agg es := by simpa using he
  subst hd'
  have := lit_cell hE r hr a ha
  rw [List.getElem?_take_of_lt hr, List.getElem?_drop] at this
  exact this
theorem laid_of {W : World} (h : laidMetH Tryd.prog lay2 W) : Laid W := by
  rw [MakeChecks.laidMetH_plain _ _ _ (by kernel_rfl)] at h
  obtain ⟨ps, ⟨g0, t0, cs0, f0, p0, q0, hg0, ht0, hv0, hd0, ⟨g1, t1, cs1, f1, p1, q1, hg1, ht1, hv1, hd1, _, _⟩, _⟩, _, _⟩ := h
  obtain rfl := Option.some.inj (gMix.symm.trans hg0)
  obtain rfl := Option.some.inj (gUn.symm.trans hg1)
  obtain rfl := Option.some.inj (tMix.symm.trans ht0)
  obtain rfl := Option.some.inj (tUn.symm.trans ht1)
  unfold Rows.laid_wringer_turn_mixing at hd0
  unfold Rows.laid_wringer_turn_unmixing at hd1
  intro i r hi hr
  constructor
  · have hc := World.var?_cell hg0 hv0 (i * 4 + r)
    refine hc.trans ?_
    have key : ∀ i, i < 4 → ∀ r, r < 4 → cs0.toList[i * 4 + r]? = some (.int .u8 (mixM i r : Nat)) := fun i hi r hr => by
      match i, hi with
      | 0, _ => match r, hr with
        | 0, _ => exact quad_cell hd0 0 0 (by decide) (by decide) _ rfl _ rfl
        | 1, _ => exact quad_cell hd0 0 1 (by decide) (by decide) _ rfl _ rfl
        | 2, _ => exact quad_cell hd0 0 2 (by decide) (by decide) _ rfl _ rfl
        | 3, _ => exact quad_cell hd0 0 3 (by decide) (by decide) _ rfl _ rfl
      | 1, _ => match r, hr with
        | 0, _ => exact quad_cell hd0 1 0 (by decide) (by decide) _ rfl _ rfl
        | 1, _ => exact quad_cell hd0 1 1 (by decide) (by decide) _ rfl _ rfl
        | 2, _ => exact quad_cell hd0 1 2 (by decide) (by decide) _ rfl _ rfl
        | 3, _ => exact quad_cell hd0 1 3 (by decide) (by decide) _ rfl _ rfl
      | 2, _ => match r, hr with
        | 0, _ => exact quad_cell hd0 2 0 (by decide) (by decide) _ rfl _ rfl
        | 1, _ => exact quad_cell hd0 2 1 (by decide) (by decide) _ rfl _ rfl
        | 2, _ => exact quad_cell hd0 2 2 (by decide) (by decide) _ rfl _ rfl
        | 3, _ => exact quad_cell hd0 2 3 (by decide) (by decide) _ rfl _ rfl
      | 3, _ => match r, hr with
        | 0, _ => exact quad_cell hd0 3 0 (by decide) (by decide) _ rfl _ rfl
        | 1, _ => exact quad_cell hd0 3 1 (by decide) (by decide) _ rfl _ rfl
        | 2, _ => exact quad_cell hd0 3 2 (by decide) (by decide) _ rfl _ rfl
        | 3, _ => exact quad_cell hd0 3 3 (by decide) (by decide) _ rfl _ rfl
    simpa using key i hi r hr
  · have hc := World.var?_cell hg1 hv1 (i * 4 + r)
    refine hc.trans ?_
    have key : ∀ i, i < 4 → ∀ r, r < 4 → cs1.toList[i * 4 + r]? = some (.int .u8 (unM i r : Nat)) := fun i hi r hr => by
      match i, hi with
      | 0, _ => match r, hr with
        | 0, _ => exact quad_cell hd1 0 0 (by decide) (by decide) _ rfl _ rfl
        | 1, _ => exact quad_cell hd1 0 1 (by decide) (by decide) _ rfl _ rfl
        | 2, _ => exact quad_cell hd1 0 2 (by decide) (by decide) _ rfl _ rfl
        | 3, _ => exact quad_cell hd1 0 3 (by decide) (by decide) _ rfl _ rfl
      | 1, _ => match r, hr with
        | 0, _ => exact quad_cell hd1 1 0 (by decide) (by decide) _ rfl _ rfl
        | 1, _ => exact quad_cell hd1 1 1 (by decide) (by decide) _ rfl _ rfl
        | 2, _ => exact quad_cell hd1 1 2 (by decide) (by decide) _ rfl _ rfl
        | 3, _ => exact quad_cell hd1 1 3 (by decide) (by decide) _ rfl _ rfl
      | 2, _ => match r, hr with
        | 0, _ => exact quad_cell hd1 2 0 (by decide) (by decide) _ rfl _ rfl
        | 1, _ => exact quad_cell hd1 2 1 (by decide) (by decide) _ rfl _ rfl
        | 2, _ => exact quad_cell hd1 2 2 (by decide) (by decide) _ rfl _ rfl
        | 3, _ => exact quad_cell hd1 2 3 (by decide) (by decide) _ rfl _ rfl
      | 3, _ => match r, hr with
        | 0, _ => exact quad_cell hd1 3 0 (by decide) (by decide) _ rfl _ rfl
        | 1, _ => exact quad_cell hd1 3 1 (by decide) (by decide) _ rfl _ rfl
        | 2, _ => exact quad_cell hd1 3 2 (by decide) (by decide) _ rfl _ rfl
        | 3, _ => exact quad_cell hd1 3 3 (by decide) (by decide) _ rfl _ rfl
    simpa using key i hi r hr
end Go.Proofs.YtdfbcdgneboilaaDoor
