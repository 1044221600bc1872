/- Own: elements by the highest bit first; dots; sums (no statement is proved here). -/
import Derived.Test.YtdfbcdgneboilaaDoorG5
import Derived.KernelRfl
namespace Go.Proofs.YtdfbcdgneboilaaDoor.Ab
open Go.Proofs
set_option linter.unusedSimpArgs false
set_option linter.unusedVariables false
def m3 : BitVec 64 := 71777214294589695#64
def m4 : BitVec 64 := 281470681808895#64
def rv1 (x : BitVec 64) : BitVec 64 := ((x >>> 8) &&& m3) ||| ((x &&& m3) <<< 8)
def rv2 (x : BitVec 64) : BitVec 64 := ((x >>> 16) &&& m4) ||| ((x &&& m4) <<< 16)
def rv3 (x : BitVec 64) : BitVec 64 := (x >>> 32) ||| (x <<< 32)
def rev64 (x : BitVec 64) : BitVec 64 := rv3 (rv2 (rv1 x))
def rw1 (x : Int) : Int := or64 (and64 (x.fdiv 256) 71777214294589695) (IntKind.u64.wrap (and64 x 71777214294589695 * 256))
def rw2 (x : Int) : Int := or64 (and64 (x.fdiv 65536) 281470681808895) (IntKind.u64.wrap (and64 x 281470681808895 * 65536))
def rw3 (x : Int) : Int := or64 (x.fdiv 4294967296) (IntKind.u64.wrap (x * 4294967296))
theorem rw1_B (x : BitVec 64) : rw1 (B x) = B (rv1 x) := by
  unfold rw1 rv1
  have a1 : (B x).fdiv 256 = B (x >>> 8) := shrB x 8 256 rfl
  rw [a1, show (71777214294589695 : Int) = B m3 from rfl, andB, andB]
  have a2 : IntKind.u64.wrap (B (x &&& m3) * 256) = B ((x &&& m3) <<< 8) := shlB _ 8 256 rfl
  rw [a2, orB]
theorem rw2_B (x : BitVec 64) : rw2 (B x) = B (rv2 x) := by
  unfold rw2 rv2
  have a1 : (B x).fdiv 65536 = B (x >>> 16) := shrB x 16 65536 rfl
  rw [a1, show (281470681808895 : Int) = B m4 from rfl, andB, andB]
  have a2 : IntKind.u64.wrap (B (x &&& m4) * 65536) = B ((x &&& m4) <<< 16) := shlB _ 16 65536 rfl
  rw [a2, orB]
theorem rw3_B (x : BitVec 64) : rw3 (B x) = B (rv3 x) := by
  unfold rw3 rv3
  have a1 : (B x).fdiv 4294967296 = B (x >>> 32) := shrB x 32 4294967296 rfl
  have a2 : IntKind.u64.wrap (B x * 4294967296) = B (x <<< 32) := shlB _ 32 4294967296 rfl
  rw [a1, a2, orB]
/-- By the highest bit first. -/
def rv (v : E) : E := mkE (rev64 (hi v)) (rev64 (lo v))
theorem or_xor_sh (a b m : BitVec 64) (k : Nat) (hm : ∀ i, i < 64 → m.getLsbD i = true → k ≤ i → m.getLsbD (i - k) = false) : (a &&& m) ||| ((b &&& m) <<< k) = (a &&& m) ^^^ ((b &&& m) <<< k) := by
  apply BitVec.eq_of_getLsbD_eq
  intro i hi
  simp only [BitVec.getLsbD_or, BitVec.getLsbD_xor, BitVec.getLsbD_and, BitVec.getLsbD_shiftLeft]
  by_cases h : k ≤ i
  · cases h2 : m.getLsbD i with
    | false => simp
    | true => rw [hm i hi h2 h]; simp
  · have : i < k := by omega
    simp [this]
theorem rv1_x (x : BitVec 64) : rv1 x = ((x >>> 8) &&& m3) ^^^ ((x &&& m3) <<< 8) :=
  or_xor_sh _ _ _ 8 fun i hi h1 h2 => (by decide +kernel : ∀ i : Fin 64, m3.getLsbD i.val = true → 8 ≤ i.val → m3.getLsbD (i.val - 8) = false) ⟨i, hi⟩ h1 h2
theorem rv2_x (x : BitVec 64) : rv2 x = ((x >>> 16) &&& m4) ^^^ ((x &&& m4) <<< 16) :=
  or_xor_sh _ _ _ 16 fun i hi h1 h2 => (by decide +kernel : ∀ i : Fin 64, m4.getLsbD i.val = true → 16 ≤ i.val → m4.getLsbD (i.val - 16) = false) ⟨i, hi⟩ h1 h2
theorem rv3_x (x : BitVec 64) : rv3 x = (x >>> 32) ^^^ (x <<< 32) := or_xor x x 32 (by decide)
theorem xor4_64 (a b c d : BitVec 64) : (a ^^^ b) ^^^ (c ^^^ d) = (a ^^^ c) ^^^ (b ^^^ d) := by
  rw [BitVec.xor_assoc, BitVec.xor_assoc, ← BitVec.xor_assoc b c d, BitVec.xor_comm b c, BitVec.xor_assoc c b d]
theorem sh_xor (m a b : BitVec 64) (k : Nat) : (((a ^^^ b) >>> k) &&& m) ^^^ (((a ^^^ b) &&& m) <<< k) = (((a >>> k) &&& m) ^^^ ((a &&& m) <<< k)) ^^^ (((b >>> k) &&& m) ^^^ ((b &&& m) <<< k)) := by
  rw [BitVec.ushiftRight_xor_distrib, and_xor64, and_xor64, BitVec.shiftLeft_xor_distrib]
  exact xor4_64 _ _ _ _
theorem rev64_xor (a b : BitVec 64) : rev64 (a ^^^ b) = rev64 a ^^^ rev64 b := by
  have h1 : ∀ a b, rv1 (a ^^^ b) = rv1 a ^^^ rv1 b := fun a b => by
    rw [rv1_x, rv1_x, rv1_x]; exact sh_xor m3 a b 8
  have h2 : ∀ a b, rv2 (a ^^^ b) = rv2 a ^^^ rv2 b := fun a b => by
    rw [rv2_x, rv2_x, rv2_x]; exact sh_xor m4 a b 16
  have h3 : ∀ a b, rv3 (a ^^^ b) = rv3 a ^^^ rv3 b := fun a b => by
    rw [rv3_x, rv3_x, rv3_x, BitVec.ushiftRight_xor_distrib, BitVec.shiftLeft_xor_distrib]
    exact xor4_64 _ _ _ _
  unfold rev64
  rw [h1, h2, h3]
theorem lin_rv : Lin rv := fun a b => by
  unfold rv
  rw [hi_xor, lo_xor, rev64_xor, rev64_xor, mk_xor]
def rp (i : Nat) : Nat := 8 * (15 - i / 8) + i % 8
theorem rv_tp (i : Nat) (hi : i < 128) : rv (tp i) = tp (rp i) := (by decide +kernel : ∀ i : Fin 128, rv (tp i.val) = tp (rp i.val)) ⟨i, hi⟩
theorem rp_rp (i : Nat) (hi : i < 128) : rp (rp i) = i := by unfold rp; omega
theorem rp_lt (i : Nat) (hi : i < 128) : rp i < 128 := by unfold rp; omega
theorem rv_rv (v : E) : rv (rv v) = v := lin_ext (lin_rv.comp lin_rv) lin_id (fun i hi => by rw [rv_tp i hi, rv_tp _ (rp_lt i hi), rp_rp i hi]) v
theorem bit_rv (v : E) (j : Nat) (hj : j < 128) : (rv v).getLsbD j = v.getLsbD (rp j) := by
  have key : ∀ n, n ≤ 128 → (xsum n (fun i => sel (v.getLsbD i) (tp (rp i)))).getLsbD j = (v.getLsbD (rp j) && decide (rp j < n)) := by
    intro n
    induction n with
    | zero => intro _; simp [xsum]
    | succ n ih =>
      intro hn
      unfold xsum
      rw [BitVec.getLsbD_xor, ih (by omega)]
      by_cases h : rp j = n
      · have e3 : ∀ q : Bool, ((q && decide (rp j < n)) ^^ (sel q (tp (rp n))).getLsbD j) = (q && decide (rp j < n + 1)) := fun q => by
          cases q
          · simp [sel]
          · have : rp n = j := by rw [← h, rp_rp j hj]
            simp [sel, tp, hj, this, h]
        rw [h] at e3 ⊢
        exact e3 _
      · have e : decide (rp j < n + 1) = decide (rp j < n) := by apply decide_eq_decide.2; omega
        have e2 : (sel (v.getLsbD n) (tp (rp n))).getLsbD j = false := by
          have hne : ¬ rp n = j := fun e => h (by rw [← e, rp_rp n (by omega)])
          cases v.getLsbD n <;> simp [sel, tp, BitVec.getLsbD_twoPow, hne]
        rw [e, e2]; simp
  have e : rv v = xsum 128 (fun i => sel (v.getLsbD i) (tp (rp i))) := by
    conv => lhs; rw [of_bits v]
    rw [lin_rv.sum]
    refine xsum_congr fun i hi => ?_
    rw [lin_rv.sel, rv_tp i hi]
  rw [e, key 128 (Nat.le_refl _)]
  simp [rp_lt j hj]
end Go.Proofs.YtdfbcdgneboilaaDoor.Ab
