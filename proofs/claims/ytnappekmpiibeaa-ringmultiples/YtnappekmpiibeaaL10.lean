/- Own: how numbers of layer 10's statements are opened (no statement is proved here). -/
import Derived.Test.YtnappekmpiibeaaG15
import Derived.Test.YtnappekmpiibeaaL8
namespace Go.Proofs.Ytnappekmpiibeaa
open Go.ChangeShapes Go.WideShapes Go.ChangeAt Go.RowKit Go.Joins Ab
theorem r8_nought : R8 0 := ⟨by decide, by decide⟩
theorem ringMultiples_any (n : Int) (hn : 0 ≤ n ∧ n ≤ 18446744073709551615) (m : Int) (hm : 0 ≤ m ∧ m ≤ 18446744073709551615) (a : Nat → Int) (ha : ∀ j, j < 16 → R8 (a j)) : CallOK Try.prog (fun _ => none) 10 [.ex (.int .u64 n), .ex (.int .u64 m), .ex (.agg (ar8 16 a).toArray)] [] { val := .ex (.bool true) } := by
  rw [ar8_el a ha, ← B_of n ⟨hn.1, by omega⟩, ← B_of m ⟨hm.1, by omega⟩]; exact rmultiples_ok _ _ _
theorem ringRaised_any (n : Int) (hn : 0 ≤ n ∧ n ≤ 65535) (m : Int) (hm : 0 ≤ m ∧ m ≤ 65535) (a : Nat → Int) (ha : ∀ j, j < 16 → R8 (a j)) : CallOK Try.prog (fun _ => none) 11 [.ex (.int .u16 n), .ex (.int .u16 m), .ex (.agg (ar8 16 a).toArray)] [] { val := .ex (.bool true) } := by
  obtain ⟨n, rfl⟩ := Int.eq_ofNat_of_zero_le hn.1
  obtain ⟨m, rfl⟩ := Int.eq_ofNat_of_zero_le hm.1
  rw [ar8_el a ha]
  have hk : ∀ j, j < 16 → R8 (arf [0, 0, 0, IntKind.u8.wrap (n : Int), 0, 0, 0, 0, 0, 0, 0, 0, 0, 0, 0, IntKind.u8.wrap (m : Int)] j) := fun j hj => by
    rcases (by omega : j = 0 ∨ j = 1 ∨ j = 2 ∨ j = 3 ∨ j = 4 ∨ j = 5 ∨ j = 6 ∨ j = 7 ∨ j = 8 ∨ j = 9 ∨ j = 10 ∨ j = 11 ∨ j = 12 ∨ j = 13 ∨ j = 14 ∨ j = 15) with rfl | rfl | rfl | rfl | rfl | rfl | rfl | rfl | rfl | rfl | rfl | rfl | rfl | rfl | rfl | rfl <;> first | exact r8_nought | exact r8_wrap _
  exact rraised_ok n m (by omega) (by omega) _ (el (arf [0, 0, 0, IntKind.u8.wrap (n : Int), 0, 0, 0, 0, 0, 0, 0, 0, 0, 0, 0, IntKind.u8.wrap (m : Int)])) ((ar8_el _ hk).symm)
end Go.Proofs.Ytnappekmpiibeaa
