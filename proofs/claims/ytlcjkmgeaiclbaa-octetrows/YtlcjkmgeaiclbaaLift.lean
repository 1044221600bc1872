/- Own: how an argument that is a slice of bytes is opened (no statement is proved here). -/
import Derived.Test.YtlcjkmgeaiclbaaBase
import Derived.ChangeOld
namespace Go.Proofs.Ytlcjkmgeaiclbaa
open Go.ChangeShapes Go.WideShapes Go.ChangeAt Go.RowKit

theorem isB_of_trod {H : Type} {enc : TypeId × Value → H} {W : World} {a : Option Addr} {len cap : Nat} {d : DataW H} {p : List MemPlace}
    (h : DataW.Trod enc Try.prog W 0 (fun _ => true) true 22 (.slice a len cap) d p) : ∃ bs : List UInt8, bs.length = len ∧ IsB W (.slice a len cap) bs := by
  obtain ⟨fuel, hf⟩ := h
  rcases open_ints Try.underlying22 Try.underlying5 (by kernel_rfl) hf with ⟨hcs, _⟩ | ⟨x, l, c, zs, hcs, hx, hl, hm, hz, _, hcell, hwz⟩
  · simp [Value.cells] at hcs
    obtain ⟨rfl, rfl, rfl⟩ := hcs
    exact ⟨[], rfl, by decide, _, _, rfl, .inl rfl⟩
  · simp [Value.cells] at hcs
    obtain ⟨rfl, rfl, rfl⟩ := hcs
    unfold maxLen at hm
    have hz : zs.length = cap := by simpa using hz
    obtain ⟨bs, hbs⟩ : ∃ bs : List UInt8, bs = (zs.take len).map fun n => UInt8.ofNat n.toNat := ⟨_, rfl⟩
    have hlen : bs.length = len := by rw [hbs]; simp; omega
    refine ⟨bs, hlen, by omega, _, cap, by rw [hlen], ?_⟩
    by_cases h0 : len = 0
    · exact .inl (by omega)
    · obtain ⟨b, off, rfl, hc⟩ := ints_at hcell (by omega)
      refine .inr ⟨b, off, rfl, fun i hi => ?_⟩
      rw [hc i (by omega)]
      have hlt : i < zs.length := by omega
      have hw := bounds_u8 (hwz zs[i] (List.getElem_mem hlt))
      have e : bs.getD i 0 = UInt8.ofNat zs[i].toNat := by
        rw [hbs, List.getD_eq_getElem?_getD, List.getElem?_map, List.getElem?_take_of_lt (by omega), List.getElem?_eq_getElem hlt]; rfl
      have e2 : zs.getD i 0 = zs[i] := by rw [List.getD_eq_getElem?_getD, List.getElem?_eq_getElem hlt]; rfl
      have e3 : (UInt8.ofNat zs[i].toNat).toNat = zs[i].toNat := by
        rw [UInt8.toNat_ofNat']; exact Nat.mod_eq_of_lt (by omega)
      rw [e, e2, e3, Int.toNat_of_nonneg hw.1]
end Go.Proofs.Ytlcjkmgeaiclbaa
