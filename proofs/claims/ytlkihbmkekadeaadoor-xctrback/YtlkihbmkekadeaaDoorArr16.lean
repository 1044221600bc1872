/- Own: how an argument that is an array of sixteen bytes is opened (no statement is proved here). -/
import Derived.Test.YtlkihbmkekadeaaDoorBase
import Derived.OpenShut
import Derived.Lib.SmallJoins
namespace Go.Proofs.YtlkihbmkekadeaaDoor
open Go.ChangeShapes Go.WideShapes Go.ChangeAt Go.RowKit Go.Joins
set_option maxRecDepth 20000

theorem arr16_of_trod {H : Type} {enc : TypeId × Value → H} {W : World} {base : Nat} {v : Value} {d : DataW H} {p : List MemPlace} (hv : Value.okWide Tryd.prog W .any base 31 v)
    (h : DataW.Trod enc Tryd.prog W 0 (fun _ => true) true 31 v d p) : ∃ bs : List UInt8, bs.length = 16 ∧ v = .agg (bcells bs).toArray := by
  obtain ⟨cs, rfl⟩ : ∃ cs, v = .agg cs := by
    unfold Value.okWide at hv
    rw [Tryd.underlying31] at hv
    cases v <;> simp_all
  obtain ⟨fuel, hf⟩ := h
  obtain ⟨xs, m, _, ex, hc, hl, hel⟩ := DataW.trod_array Tryd.underlying31 hf
  have c5 : Tryd.prog.cellsOf 5 = 1 := by kernel_rfl
  have c16 : Tryd.prog.cellsOf 31 = 16 := by kernel_rfl
  rw [c16] at hc
  simp only [Value.cells] at hc hel
  have hcl : cs.toList.length = 16 := by simpa using hc
  have key : ∀ r, r < 16 → ∃ b : UInt8, cs.toList[r]? = some (.int .u8 (b.toNat : Int)) := by
    intro r hr
    have hE := hel r hr
    rw [c5, Nat.mul_one, List.getElem?_eq_getElem (by omega)] at hE
    obtain ⟨z, e1, _, wz⟩ := DataW.trod_int Tryd.underlying5 hE
    have bz := bounds_u8 wz
    have h0 : ((cs.toList.drop r).take 1)[0]? = some (.int .u8 z) := by rw [e1]; rfl
    refine ⟨UInt8.ofNat z.toNat, ?_⟩
    have e : ((UInt8.ofNat z.toNat).toNat : Int) = z := by
      rw [UInt8.toNat_ofNat', Nat.mod_eq_of_lt (by omega)]; omega
    rw [e]
    simpa using h0
  have : ∀ (l : List Value), (∀ r, r < l.length → ∃ b : UInt8, l[r]? = some (.int .u8 (b.toNat : Int))) → ∃ bs, l = bcells bs := by
    intro l
    induction l with
    | nil => intro _; exact ⟨[], rfl⟩
    | cons a l ih =>
      intro h
      obtain ⟨b, hb⟩ := h 0 (by simp)
      obtain ⟨bs, rfl⟩ := ih (fun r hr => by simpa using h (r + 1) (by simp; omega))
      simp at hb
      exact ⟨b :: bs, by rw [hb]; rfl⟩
  obtain ⟨bs, hbs⟩ := this cs.toList (by rw [hcl]; exact key)
  refine ⟨bs, ?_, ?_⟩
  · rw [← length_bcells, ← hbs]; exact hcl
  · rw [← hbs]
end Go.Proofs.YtlkihbmkekadeaaDoor
