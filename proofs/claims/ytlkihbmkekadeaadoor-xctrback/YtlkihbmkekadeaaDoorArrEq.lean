/- Own: arrays of bytes held against each other (no statement is proved here). -/
import Derived.Test.YtlkihbmkekadeaaDoorBase
import Derived.DeepKeys
namespace Go.Proofs.YtlkihbmkekadeaaDoor
open Go.ChangeShapes Go.WideShapes Go.ChangeAt Go.RowKit
set_option maxRecDepth 20000

theorem part_byte (w : World) (xs : List UInt8) (i : Nat) (hi : i < xs.length) : (_root_.Go.part 5 (bcells xs).toArray (i * 1)).run Tryd.prog w = .ok (.int .u8 ((xs.getD i 0).toNat : Int)) w := by
  have h := bcells_get xs i hi
  exact run_part_plain w (by kernel_rfl) (by rw [Nat.mul_one]; simpa using h)
theorem items_bytes (w : World) (d : Nat) (xs ys : List UInt8) : ∀ (is : List Nat), (∀ i ∈ is, i < xs.length ∧ i < ys.length) → (Op.eqItems (d + 1) 5 1 (bcells xs).toArray (bcells ys).toArray is).run Tryd.prog w = .ok (is.all fun i => xs.getD i 0 == ys.getD i 0) w
  | [], _ => by simp [Op.eqItems]
  | i :: is, h => by
    have h1 := part_byte w xs i (h i (by simp)).1
    have h2 := part_byte w ys i (h i (by simp)).2
    have ih := items_bytes w d xs ys is (fun j hj => h j (by simp [hj]))
    have he := run_equalIn_int (P := Tryd.prog) w d 5 .u8 .u8 ((xs.getD i 0).toNat : Int) ((ys.getD i 0).toNat : Int) Tryd.underlying5
    simp only [Op.eqItems, Sem.run_bind, h1, h2, he, Result.andThen_ok, List.all_cons]
    have e : (((xs.getD i 0).toNat : Int) == ((ys.getD i 0).toNat : Int)) = (xs.getD i 0 == ys.getD i 0) := by
      by_cases hh : xs.getD i 0 = ys.getD i 0
      · rw [hh]; simp
      · have : (xs.getD i 0).toNat ≠ (ys.getD i 0).toNat := fun h' => hh (UInt8.toNat_inj.1 h')
        rw [beq_eq_false_iff_ne.2 hh, beq_eq_false_iff_ne.2 (by omega)]
    rw [e]
    cases xs.getD i 0 == ys.getD i 0
    · simp
    · simpa using ih
theorem eq_bytes (w : World) (t n : Nat) (ht : Tryd.prog.underlying t = some (.array n 5)) (xs ys : List UInt8) (hx : xs.length = n) (hy : ys.length = n) : (Op.equalIn 10000 t (.agg (bcells xs).toArray) (.agg (bcells ys).toArray)).run Tryd.prog w = .ok (decide (xs = ys)) w := by
  obtain ⟨i, hi⟩ : ∃ i, Tryd.prog.info? 5 = some i := ⟨_, rfl⟩
  rw [show 10000 = 9999 + 1 from rfl, run_equalIn_array w 9999 _ _ ht hi]
  have hc : Tryd.prog.cellsOf 5 = 1 := by kernel_rfl
  rw [hc, show 9999 = 9998 + 1 from rfl, items_bytes w 9998 xs ys _ (fun i hi => by simp at hi; omega)]
  congr 1
  rw [Bool.eq_iff_iff, decide_eq_true_iff, List.all_eq_true]
  constructor
  · intro h
    apply List.ext_getElem (by omega)
    intro i h1 h2
    have := h i (by simp; omega)
    simpa [h1, h2] using this
  · rintro rfl i _; simp
end Go.Proofs.YtlkihbmkekadeaaDoor
