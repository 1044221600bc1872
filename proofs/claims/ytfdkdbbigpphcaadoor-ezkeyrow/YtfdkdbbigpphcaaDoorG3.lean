/- Own: tables and dots of layer 10 (no statement is proved here). -/
import Derived.Test.YtfdkdbbigpphcaaDoorG2
import Derived.KernelRfl
namespace Go.Proofs.YtfdkdbbigpphcaaDoor.Ab
open Go.Proofs
set_option linter.unusedSimpArgs false
set_option linter.unusedVariables false
theorem or_xor (x y : BitVec 64) (n : Nat) (hn : n ≤ 64) : x >>> n ||| y <<< (64 - n) = x >>> n ^^^ y <<< (64 - n) := by
  apply BitVec.eq_of_getLsbD_eq
  intro i hi
  rw [BitVec.getLsbD_or, BitVec.getLsbD_xor, BitVec.getLsbD_ushiftRight, BitVec.getLsbD_shiftLeft]
  by_cases h : n + i < 64
  · have : i < 64 - n := by omega
    simp [this]
  · rw [BitVec.getLsbD_of_ge x _ (by omega)]; simp
theorem and_xor64 (a b m : BitVec 64) : (a ^^^ b) &&& m = (a &&& m) ^^^ (b &&& m) := by
  apply BitVec.eq_of_getLsbD_eq
  intro j hj
  simp only [BitVec.getLsbD_and, BitVec.getLsbD_xor]
  cases a.getLsbD j <;> cases b.getLsbD j <;> simp
/-- Divided by x to the n, as the code does it. -/
def dv (n : Nat) (v : E) : E := mkE (lo v >>> n ^^^ hi v <<< (64 - n)) (hi v >>> n ^^^ ((((lo v &&& BitVec.ofNat 64 (2 ^ n - 1)) <<< (64 - n) ^^^ (lo v &&& BitVec.ofNat 64 (2 ^ n - 1)) <<< (63 - n)) ^^^ (lo v &&& BitVec.ofNat 64 (2 ^ n - 1)) <<< (62 - n)) ^^^ (lo v &&& BitVec.ofNat 64 (2 ^ n - 1)) <<< (57 - n)))
theorem lo_dv (n a : Nat) (ha : 64 - n = a) (hn : n ≤ 64) (v : E) : lo (dv n v) = lo v >>> n ||| hi v <<< a := by subst ha; unfold dv; rw [lo_mk, or_xor _ _ _ hn]
theorem hi_dv (n a b c d : Nat) (m : BitVec 64) (ha : 64 - n = a) (hb : 63 - n = b) (hc : 62 - n = c) (hd : 57 - n = d) (hm : BitVec.ofNat 64 (2 ^ n - 1) = m) (v : E) : hi (dv n v) = hi v >>> n ^^^ ((((lo v &&& m) <<< a ^^^ (lo v &&& m) <<< b) ^^^ (lo v &&& m) <<< c) ^^^ (lo v &&& m) <<< d) := by subst ha hb hc hd hm; unfold dv; rw [hi_mk]
theorem lin_dv (n : Nat) : Lin (dv n) := fun a b => by
  unfold dv
  simp only [lo_xor, hi_xor, and_xor64, BitVec.ushiftRight_xor_distrib, BitVec.shiftLeft_xor_distrib]
  rw [← mk_xor]
  congr 1 <;> ac_rfl
theorem dv_eq (n : Nat) (h1 : 1 ≤ n) (h2 : n ≤ 4) (v : E) : dv n v = hn n v := by
  refine lin_ext (lin_dv n) (lin_hn n) (fun i hi => ?_) v
  have key : ∀ n : Fin 5, 1 ≤ n.val → ∀ i : Fin 128, dv n.val (tp i.val) = hn n.val (tp i.val) := by decide +kernel
  exact key ⟨n, by omega⟩ h1 ⟨i, hi⟩
theorem rplus_0 (v : E) : CallOK Tryd.prog (fun _ => none) 43 [.ex (.agg #[.int .u64 0, .int .u64 0]), .ex (wd v)] [] { val := .ex (wd v) } := by
  have h := rplus_e 0#128 v
  rw [BitVec.zero_xor] at h
  exact h
end Go.Proofs.YtfdkdbbigpphcaaDoor.Ab
