/- Own: tables and dots of layer 10 (no statement is proved here). -/
import Derived.Test.YtdfbcdgneboilaaDoorG2
import Derived.KernelRfl
namespace Go.Proofs.YtdfbcdgneboilaaDoor.Ab
open Go.Proofs
set_option linter.unusedSimpArgs false
set_option linter.unusedVariables false
theorem fn68 : Tryd.prog.funcs[68]? = some Tryd.f68 := by kernel_rfl
theorem fn69 : Tryd.prog.funcs[69]? = some Tryd.f69 := by kernel_rfl
theorem or_xor (x y : BitVec 64) (n : Nat) (hn : n ≤ 64) : x >>> n ||| y <<< (64 - n) = x >>> n ^^^ y <<< (64 - n) := by
  apply BitVec.eq_of_getLsbD_eq
  intro i hi
  rw [BitVec.getLsbD_or, BitVec.getLsbD_xor, BitVec.getLsbD_ushiftRight, BitVec.getLsbD_shiftLeft]
  by_cases h : n + i < 64
  · have : i < 64 - n := by omega
    simp [this]
  · rw [BitVec.getLsbD_of_ge x _ (by omega)]; simp
theorem and_xor64 (a b m : BitVec 64) : (a ^^^ b) &&& m = (a &&& m) ^^^ (b &&& m) := by
  apply BitVec.eq_of_getLsbD_eq
  intro j hj
  simp only [BitVec.getLsbD_and, BitVec.getLsbD_xor]
  cases a.getLsbD j <;> cases b.getLsbD j <;> simp
/-- Divided by x to the n, as the code does it. -/
def dv (n : Nat) (v : E) : E := mkE (lo v >>> n ^^^ hi v <<< (64 - n)) (hi v >>> n ^^^ ((((lo v &&& BitVec.ofNat 64 (2 ^ n - 1)) <<< (64 - n) ^^^ (lo v &&& BitVec.ofNat 64 (2 ^ n - 1)) <<< (63 - n)) ^^^ (lo v &&& BitVec.ofNat 64 (2 ^ n - 1)) <<< (62 - n)) ^^^ (lo v &&& BitVec.ofNat 64 (2 ^ n - 1)) <<< (57 - n)))
theorem lo_dv (n a : Nat) (ha : 64 - n = a) (hn : n ≤ 64) (v : E) : lo (dv n v) = lo v >>> n ||| hi v <<< a := by subst ha; unfold dv; rw [lo_mk, or_xor _ _ _ hn]
theorem hi_dv (n a b c d : Nat) (m : BitVec 64) (ha : 64 - n = a) (hb : 63 - n = b) (hc : 62 - n = c) (hd : 57 - n = d) (hm : BitVec.ofNat 64 (2 ^ n - 1) = m) (v : E) : hi (dv n v) = hi v >>> n ^^^ ((((lo v &&& m) <<< a ^^^ (lo v &&& m) <<< b) ^^^ (lo v &&& m) <<< c) ^^^ (lo v &&& m) <<< d) := by subst ha hb hc hd hm; unfold dv; rw [hi_mk]
theorem lin_dv (n : Nat) : Lin (dv n) := fun a b => by
  unfold dv
  simp only [lo_xor, hi_xor, and_xor64, BitVec.ushiftRight_xor_distrib, BitVec.shiftLeft_xor_distrib]
  rw [← mk_xor]
  congr 1 <;> ac_rfl
theorem dv_eq (n : Nat) (h1 : 1 ≤ n) (h2 : n ≤ 4) (v : E) : dv n v = hn n v := by
  refine lin_ext (lin_dv n) (lin_hn n) (fun i hi => ?_) v
  have key : ∀ n : Fin 5, 1 ≤ n.val → ∀ i : Fin 128, dv n.val (tp i.val) = hn n.val (tp i.val) := by decide +kernel
  exact key ⟨n, by omega⟩ h1 ⟨i, hi⟩
theorem divided1_e (v : E) : CallOK Tryd.prog (fun _ => none) 76 [.ex (wd v), .ex (.int .i64 1)] [] { val := .ex (wd (hn 1 v)) } := by
  have q := dv_eq 1 (by decide) (by decide) v
  have l1 : (B (lo v)).fdiv 2 = B (lo v >>> 1) := shrB (lo v) 1 2 rfl
  have l2 : IntKind.u64.wrap (B (hi v) * 9223372036854775808) = B (hi v <<< 63) := shlB (hi v) 63 9223372036854775808 rfl
  have e1 : or64 ((B (lo v)).fdiv 2) (IntKind.u64.wrap (B (hi v) * 9223372036854775808)) = B (lo (hn 1 v)) := by
    rw [l1, l2, orB, ← q, lo_dv 1 63 rfl (by decide)]
  have ea : and64 (B (lo v)) 1 = B (lo v &&& 1#64) := by rw [show (1 : Int) = B 1#64 from rfl, andB]
  have hd : hi (dv 1 v) = hi v >>> 1 ^^^ ((((lo v &&& 1#64) <<< 63 ^^^ (lo v &&& 1#64) <<< 62) ^^^ (lo v &&& 1#64) <<< 61) ^^^ (lo v &&& 1#64) <<< 56) := hi_dv 1 63 62 61 56 1#64 rfl rfl rfl rfl rfl v
  have e2 : xor64 ((B (hi v)).fdiv 2) (xor64 (xor64 (xor64 (IntKind.u64.wrap (and64 (B (lo v)) 1 * 9223372036854775808)) (IntKind.u64.wrap (and64 (B (lo v)) 1 * 4611686018427387904))) (IntKind.u64.wrap (and64 (B (lo v)) 1 * 2305843009213693952))) (IntKind.u64.wrap (and64 (B (lo v)) 1 * 72057594037927936))) = B (hi (hn 1 v)) := by
    rw [← q, hd, ea, ← xorB, ← xorB, ← xorB, ← xorB]
    have s1 : IntKind.u64.wrap (B (lo v &&& 1#64) * 9223372036854775808) = B ((lo v &&& 1#64) <<< 63) := shlB _ 63 9223372036854775808 rfl
    have s2 : IntKind.u64.wrap (B (lo v &&& 1#64) * 4611686018427387904) = B ((lo v &&& 1#64) <<< 62) := shlB _ 62 4611686018427387904 rfl
    have s3 : IntKind.u64.wrap (B (lo v &&& 1#64) * 2305843009213693952) = B ((lo v &&& 1#64) <<< 61) := shlB _ 61 2305843009213693952 rfl
    have s4 : IntKind.u64.wrap (B (lo v &&& 1#64) * 72057594037927936) = B ((lo v &&& 1#64) <<< 56) := shlB _ 56 72057594037927936 rfl
    have s5 : (B (hi v)).fdiv 2 = B (hi v >>> 1) := shrB _ 1 2 rfl
    rw [s1, s2, s3, s4, s5]
  unfold wd
  rw [← e1, ← e2]
  refine CallOK.from0 hmix Tryd.f76 0 fn76 (by kernel_rfl) (by kernel_rfl) (fun w ρ h1 h2 => ?_)
  refine AG.rk 10 [4] [4] 5 (todo' := [.code (sub (codeOf Tryd.f76) [1, 1, 1, 1, 1])]) (st' := ⟨mkT 51 [(4, .p 4 0)], [(4, .own [Value.int .u64 (IntKind.wrap .u64 (↑(BitVec.toNat (BitVec.ofInt 64 (Int.fdiv (B (lo v)) 2) ||| BitVec.ofInt 64 (IntKind.wrap .u64 (B (hi v) * 9223372036854775808)))) : Int)), Value.int .u64 (IntKind.wrap .u64 (↑(BitVec.toNat (BitVec.ofInt 64 (Int.fdiv (B (hi v)) 2) ^^^ BitVec.ofInt 64 (IntKind.wrap .u64 (↑(BitVec.toNat (BitVec.ofInt 64 (IntKind.wrap .u64 (↑(BitVec.toNat (BitVec.ofInt 64 (IntKind.wrap .u64 (↑(BitVec.toNat (BitVec.ofInt 64 (IntKind.wrap .u64 (IntKind.wrap .u64 (↑(BitVec.toNat (BitVec.ofInt 64 (B (lo v)) &&& BitVec.ofInt 64 1)) : Int) * 9223372036854775808)) ^^^ BitVec.ofInt 64 (IntKind.wrap .u64 (IntKind.wrap .u64 (↑(BitVec.toNat (BitVec.ofInt 64 (B (lo v)) &&& BitVec.ofInt 64 1)) : Int) * 4611686018427387904)))) : Int)) ^^^ BitVec.ofInt 64 (IntKind.wrap .u64 (IntKind.wrap .u64 (↑(BitVec.toNat (BitVec.ofInt 64 (B (lo v)) &&& BitVec.ofInt 64 1)) : Int) * 2305843009213693952)))) : Int)) ^^^ BitVec.ofInt 64 (IntKind.wrap .u64 (IntKind.wrap .u64 (↑(BitVec.toNat (BitVec.ofInt 64 (B (lo v)) &&& BitVec.ofInt 64 1)) : Int) * 72057594037927936)))) : Int)))) : Int))])], 5⟩) (by kernel_rfl) (by kernel_rfl) ?_
  refine AG.fin ([.ex (.agg { toList := [Value.int .u64 (IntKind.wrap .u64 (↑(BitVec.toNat (BitVec.ofInt 64 (Int.fdiv (B (lo v)) 2) ||| BitVec.ofInt 64 (IntKind.wrap .u64 (B (hi v) * 9223372036854775808)))) : Int)), Value.int .u64 (IntKind.wrap .u64 (↑(BitVec.toNat (BitVec.ofInt 64 (Int.fdiv (B (hi v)) 2) ^^^ BitVec.ofInt 64 (IntKind.wrap .u64 (↑(BitVec.toNat (BitVec.ofInt 64 (IntKind.wrap .u64 (↑(BitVec.toNat (BitVec.ofInt 64 (IntKind.wrap .u64 (↑(BitVec.toNat (BitVec.ofInt 64 (IntKind.wrap .u64 (IntKind.wrap .u64 (↑(BitVec.toNat (BitVec.ofInt 64 (B (lo v)) &&& BitVec.ofInt 64 1)) : Int) * 9223372036854775808)) ^^^ BitVec.ofInt 64 (IntKind.wrap .u64 (IntKind.wrap .u64 (↑(BitVec.toNat (BitVec.ofInt 64 (B (lo v)) &&& BitVec.ofInt 64 1)) : Int) * 4611686018427387904)))) : Int)) ^^^ BitVec.ofInt 64 (IntKind.wrap .u64 (IntKind.wrap .u64 (↑(BitVec.toNat (BitVec.ofInt 64 (B (lo v)) &&& BitVec.ofInt 64 1)) : Int) * 2305843009213693952)))) : Int)) ^^^ BitVec.ofInt 64 (IntKind.wrap .u64 (IntKind.wrap .u64 (↑(BitVec.toNat (BitVec.ofInt 64 (B (lo v)) &&& BitVec.ofInt 64 1)) : Int) * 72057594037927936)))) : Int)))) : Int))] })]) Go.Proofs.Tryd.f76 fn76 (.inr ⟨_, rfl⟩) (obs := [Ob.le 2 2]) (by kernel_rfl) ⟨(Ob.holds_of_dec (by kernel_rfl)), trivial⟩ (by kernel_rfl) trivial (by kernel_rfl)
theorem divided2_e (v : E) : CallOK Tryd.prog (fun _ => none) 76 [.ex (wd v), .ex (.int .i64 2)] [] { val := .ex (wd (hn 2 v)) } := by
  have q := dv_eq 2 (by decide) (by decide) v
  have l1 : (B (lo v)).fdiv 4 = B (lo v >>> 2) := shrB (lo v) 2 4 rfl
  have l2 : IntKind.u64.wrap (B (hi v) * 4611686018427387904) = B (hi v <<< 62) := shlB (hi v) 62 4611686018427387904 rfl
  have e1 : or64 ((B (lo v)).fdiv 4) (IntKind.u64.wrap (B (hi v) * 4611686018427387904)) = B (lo (hn 2 v)) := by
    rw [l1, l2, orB, ← q, lo_dv 2 62 rfl (by decide)]
  have ea : and64 (B (lo v)) 3 = B (lo v &&& 3#64) := by rw [show (3 : Int) = B 3#64 from rfl, andB]
  have hd : hi (dv 2 v) = hi v >>> 2 ^^^ ((((lo v &&& 3#64) <<< 62 ^^^ (lo v &&& 3#64) <<< 61) ^^^ (lo v &&& 3#64) <<< 60) ^^^ (lo v &&& 3#64) <<< 55) := hi_dv 2 62 61 60 55 3#64 rfl rfl rfl rfl rfl v
  have e2 : xor64 ((B (hi v)).fdiv 4) (xor64 (xor64 (xor64 (IntKind.u64.wrap (and64 (B (lo v)) 3 * 4611686018427387904)) (IntKind.u64.wrap (and64 (B (lo v)) 3 * 2305843009213693952))) (IntKind.u64.wrap (and64 (B (lo v)) 3 * 1152921504606846976))) (IntKind.u64.wrap (and64 (B (lo v)) 3 * 36028797018963968))) = B (hi (hn 2 v)) := by
    rw [← q, hd, ea, ← xorB, ← xorB, ← xorB, ← xorB]
    have s1 : IntKind.u64.wrap (B (lo v &&& 3#64) * 4611686018427387904) = B ((lo v &&& 3#64) <<< 62) := shlB _ 62 4611686018427387904 rfl
    have s2 : IntKind.u64.wrap (B (lo v &&& 3#64) * 2305843009213693952) = B ((lo v &&& 3#64) <<< 61) := shlB _ 61 2305843009213693952 rfl
    have s3 : IntKind.u64.wrap (B (lo v &&& 3#64) * 1152921504606846976) = B ((lo v &&& 3#64) <<< 60) := shlB _ 60 1152921504606846976 rfl
    have s4 : IntKind.u64.wrap (B (lo v &&& 3#64) * 36028797018963968) = B ((lo v &&& 3#64) <<< 55) := shlB _ 55 36028797018963968 rfl
    have s5 : (B (hi v)).fdiv 4 = B (hi v >>> 2) := shrB _ 2 4 rfl
    rw [s1, s2, s3, s4, s5]
  unfold wd
  rw [← e1, ← e2]
  refine CallOK.from0 hmix Tryd.f76 0 fn76 (by kernel_rfl) (by kernel_rfl) (fun w ρ h1 h2 => ?_)
  refine AG.rk 10 [4] [4] 5 (todo' := [.code (sub (codeOf Tryd.f76) [1, 1, 1, 1, 1])]) (st' := ⟨mkT 51 [(4, .p 4 0)], [(4, .own [Value.int .u64 (IntKind.wrap .u64 (↑(BitVec.toNat (BitVec.ofInt 64 (Int.fdiv (B (lo v)) 4) ||| BitVec.ofInt 64 (IntKind.wrap .u64 (B (hi v) * 4611686018427387904)))) : Int)), Value.int .u64 (IntKind.wrap .u64 (↑(BitVec.toNat (BitVec.ofInt 64 (Int.fdiv (B (hi v)) 4) ^^^ BitVec.ofInt 64 (IntKind.wrap .u64 (↑(BitVec.toNat (BitVec.ofInt 64 (IntKind.wrap .u64 (↑(BitVec.toNat (BitVec.ofInt 64 (IntKind.wrap .u64 (↑(BitVec.toNat (BitVec.ofInt 64 (IntKind.wrap .u64 (IntKind.wrap .u64 (↑(BitVec.toNat (BitVec.ofInt 64 (B (lo v)) &&& BitVec.ofInt 64 3)) : Int) * 4611686018427387904)) ^^^ BitVec.ofInt 64 (IntKind.wrap .u64 (IntKind.wrap .u64 (↑(BitVec.toNat (BitVec.ofInt 64 (B (lo v)) &&& BitVec.ofInt 64 3)) : Int) * 2305843009213693952)))) : Int)) ^^^ BitVec.ofInt 64 (IntKind.wrap .u64 (IntKind.wrap .u64 (↑(BitVec.toNat (BitVec.ofInt 64 (B (lo v)) &&& BitVec.ofInt 64 3)) : Int) * 1152921504606846976)))) : Int)) ^^^ BitVec.ofInt 64 (IntKind.wrap .u64 (IntKind.wrap .u64 (↑(BitVec.toNat (BitVec.ofInt 64 (B (lo v)) &&& BitVec.ofInt 64 3)) : Int) * 36028797018963968)))) : Int)))) : Int))])], 5⟩) (by kernel_rfl) (by kernel_rfl) ?_
  refine AG.fin ([.ex (.agg { toList := [Value.int .u64 (IntKind.wrap .u64 (↑(BitVec.toNat (BitVec.ofInt 64 (Int.fdiv (B (lo v)) 4) ||| BitVec.ofInt 64 (IntKind.wrap .u64 (B (hi v) * 4611686018427387904)))) : Int)), Value.int .u64 (IntKind.wrap .u64 (↑(BitVec.toNat (BitVec.ofInt 64 (Int.fdiv (B (hi v)) 4) ^^^ BitVec.ofInt 64 (IntKind.wrap .u64 (↑(BitVec.toNat (BitVec.ofInt 64 (IntKind.wrap .u64 (↑(BitVec.toNat (BitVec.ofInt 64 (IntKind.wrap .u64 (↑(BitVec.toNat (BitVec.ofInt 64 (IntKind.wrap .u64 (IntKind.wrap .u64 (↑(BitVec.toNat (BitVec.ofInt 64 (B (lo v)) &&& BitVec.ofInt 64 3)) : Int) * 4611686018427387904)) ^^^ BitVec.ofInt 64 (IntKind.wrap .u64 (IntKind.wrap .u64 (↑(BitVec.toNat (BitVec.ofInt 64 (B (lo v)) &&& BitVec.ofInt 64 3)) : Int) * 2305843009213693952)))) : Int)) ^^^ BitVec.ofInt 64 (IntKind.wrap .u64 (IntKind.wrap .u64 (↑(BitVec.toNat (BitVec.ofInt 64 (B (lo v)) &&& BitVec.ofInt 64 3)) : Int) * 1152921504606846976)))) : Int)) ^^^ BitVec.ofInt 64 (IntKind.wrap .u64 (IntKind.wrap .u64 (↑(BitVec.toNat (BitVec.ofInt 64 (B (lo v)) &&& BitVec.ofInt 64 3)) : Int) * 36028797018963968)))) : Int)))) : Int))] })]) Go.Proofs.Tryd.f76 fn76 (.inr ⟨_, rfl⟩) (obs := [Ob.le 2 2]) (by kernel_rfl) ⟨(Ob.holds_of_dec (by kernel_rfl)), trivial⟩ (by kernel_rfl) trivial (by kernel_rfl)
theorem divided3_e (v : E) : CallOK Tryd.prog (fun _ => none) 76 [.ex (wd v), .ex (.int .i64 3)] [] { val := .ex (wd (hn 3 v)) } := by
  have q := dv_eq 3 (by decide) (by decide) v
  have l1 : (B (lo v)).fdiv 8 = B (lo v >>> 3) := shrB (lo v) 3 8 rfl
  have l2 : IntKind.u64.wrap (B (hi v) * 2305843009213693952) = B (hi v <<< 61) := shlB (hi v) 61 2305843009213693952 rfl
  have e1 : or64 ((B (lo v)).fdiv 8) (IntKind.u64.wrap (B (hi v) * 2305843009213693952)) = B (lo (hn 3 v)) := by
    rw [l1, l2, orB, ← q, lo_dv 3 61 rfl (by decide)]
  have ea : and64 (B (lo v)) 7 = B (lo v &&& 7#64) := by rw [show (7 : Int) = B 7#64 from rfl, andB]
  have hd : hi (dv 3 v) = hi v >>> 3 ^^^ ((((lo v &&& 7#64) <<< 61 ^^^ (lo v &&& 7#64) <<< 60) ^^^ (lo v &&& 7#64) <<< 59) ^^^ (lo v &&& 7#64) <<< 54) := hi_dv 3 61 60 59 54 7#64 rfl rfl rfl rfl rfl v
  have e2 : xor64 ((B (hi v)).fdiv 8) (xor64 (xor64 (xor64 (IntKind.u64.wrap (and64 (B (lo v)) 7 * 2305843009213693952)) (IntKind.u64.wrap (and64 (B (lo v)) 7 * 1152921504606846976))) (IntKind.u64.wrap (and64 (B (lo v)) 7 * 576460752303423488))) (IntKind.u64.wrap (and64 (B (lo v)) 7 * 18014398509481984))) = B (hi (hn 3 v)) := by
    rw [← q, hd, ea, ← xorB, ← xorB, ← xorB, ← xorB]
    have s1 : IntKind.u64.wrap (B (lo v &&& 7#64) * 2305843009213693952) = B ((lo v &&& 7#64) <<< 61) := shlB _ 61 2305843009213693952 rfl
    have s2 : IntKind.u64.wrap (B (lo v &&& 7#64) * 1152921504606846976) = B ((lo v &&& 7#64) <<< 60) := shlB _ 60 1152921504606846976 rfl
    have s3 : IntKind.u64.wrap (B (lo v &&& 7#64) * 576460752303423488) = B ((lo v &&& 7#64) <<< 59) := shlB _ 59 576460752303423488 rfl
    have s4 : IntKind.u64.wrap (B (lo v &&& 7#64) * 18014398509481984) = B ((lo v &&& 7#64) <<< 54) := shlB _ 54 18014398509481984 rfl
    have s5 : (B (hi v)).fdiv 8 = B (hi v >>> 3) := shrB _ 3 8 rfl
    rw [s1, s2, s3, s4, s5]
  unfold wd
  rw [← e1, ← e2]
  refine CallOK.from0 hmix Tryd.f76 0 fn76 (by kernel_rfl) (by kernel_rfl) (fun w ρ h1 h2 => ?_)
  refine AG.rk 10 [4] [4] 5 (todo' := [.code (sub (codeOf Tryd.f76) [1, 1, 1, 1, 1])]) (st' := ⟨mkT 51 [(4, .p 4 0)], [(4, .own [Value.int .u64 (IntKind.wrap .u64 (↑(BitVec.toNat (BitVec.ofInt 64 (Int.fdiv (B (lo v)) 8) ||| BitVec.ofInt 64 (IntKind.wrap .u64 (B (hi v) * 2305843009213693952)))) : Int)), Value.int .u64 (IntKind.wrap .u64 (↑(BitVec.toNat (BitVec.ofInt 64 (Int.fdiv (B (hi v)) 8) ^^^ BitVec.ofInt 64 (IntKind.wrap .u64 (↑(BitVec.toNat (BitVec.ofInt 64 (IntKind.wrap .u64 (↑(BitVec.toNat (BitVec.ofInt 64 (IntKind.wrap .u64 (↑(BitVec.toNat (BitVec.ofInt 64 (IntKind.wrap .u64 (IntKind.wrap .u64 (↑(BitVec.toNat (BitVec.ofInt 64 (B (lo v)) &&& BitVec.ofInt 64 7)) : Int) * 2305843009213693952)) ^^^ BitVec.ofInt 64 (IntKind.wrap .u64 (IntKind.wrap .u64 (↑(BitVec.toNat (BitVec.ofInt 64 (B (lo v)) &&& BitVec.ofInt 64 7)) : Int) * 1152921504606846976)))) : Int)) ^^^ BitVec.ofInt 64 (IntKind.wrap .u64 (IntKind.wrap .u64 (↑(BitVec.toNat (BitVec.ofInt 64 (B (lo v)) &&& BitVec.ofInt 64 7)) : Int) * 576460752303423488)))) : Int)) ^^^ BitVec.ofInt 64 (IntKind.wrap .u64 (IntKind.wrap .u64 (↑(BitVec.toNat (BitVec.ofInt 64 (B (lo v)) &&& BitVec.ofInt 64 7)) : Int) * 18014398509481984)))) : Int)))) : Int))])], 5⟩) (by kernel_rfl) (by kernel_rfl) ?_
  refine AG.fin ([.ex (.agg { toList := [Value.int .u64 (IntKind.wrap .u64 (↑(BitVec.toNat (BitVec.ofInt 64 (Int.fdiv (B (lo v)) 8) ||| BitVec.ofInt 64 (IntKind.wrap .u64 (B (hi v) * 2305843009213693952)))) : Int)), Value.int .u64 (IntKind.wrap .u64 (↑(BitVec.toNat (BitVec.ofInt 64 (Int.fdiv (B (hi v)) 8) ^^^ BitVec.ofInt 64 (IntKind.wrap .u64 (↑(BitVec.toNat (BitVec.ofInt 64 (IntKind.wrap .u64 (↑(BitVec.toNat (BitVec.ofInt 64 (IntKind.wrap .u64 (↑(BitVec.toNat (BitVec.ofInt 64 (IntKind.wrap .u64 (IntKind.wrap .u64 (↑(BitVec.toNat (BitVec.ofInt 64 (B (lo v)) &&& BitVec.ofInt 64 7)) : Int) * 2305843009213693952)) ^^^ BitVec.ofInt 64 (IntKind.wrap .u64 (IntKind.wrap .u64 (↑(BitVec.toNat (BitVec.ofInt 64 (B (lo v)) &&& BitVec.ofInt 64 7)) : Int) * 1152921504606846976)))) : Int)) ^^^ BitVec.ofInt 64 (IntKind.wrap .u64 (IntKind.wrap .u64 (↑(BitVec.toNat (BitVec.ofInt 64 (B (lo v)) &&& BitVec.ofInt 64 7)) : Int) * 576460752303423488)))) : Int)) ^^^ BitVec.ofInt 64 (IntKind.wrap .u64 (IntKind.wrap .u64 (↑(BitVec.toNat (BitVec.ofInt 64 (B (lo v)) &&& BitVec.ofInt 64 7)) : Int) * 18014398509481984)))) : Int)))) : Int))] })]) Go.Proofs.Tryd.f76 fn76 (.inr ⟨_, rfl⟩) (obs := [Ob.le 2 2]) (by kernel_rfl) ⟨(Ob.holds_of_dec (by kernel_rfl)), trivial⟩ (by kernel_rfl) trivial (by kernel_rfl)
theorem divided4_e (v : E) : CallOK Tryd.prog (fun _ => none) 76 [.ex (wd v), .ex (.int .i64 4)] [] { val := .ex (wd (hn 4 v)) } := by
  have q := dv_eq 4 (by decide) (by decide) v
  have l1 : (B (lo v)).fdiv 16 = B (lo v >>> 4) := shrB (lo v) 4 16 rfl
  have l2 : IntKind.u64.wrap (B (hi v) * 1152921504606846976) = B (hi v <<< 60) := shlB (hi v) 60 1152921504606846976 rfl
  have e1 : or64 ((B (lo v)).fdiv 16) (IntKind.u64.wrap (B (hi v) * 1152921504606846976)) = B (lo (hn 4 v)) := by
    rw [l1, l2, orB, ← q, lo_dv 4 60 rfl (by decide)]
  have ea : and64 (B (lo v)) 15 = B (lo v &&& 15#64) := by rw [show (15 : Int) = B 15#64 from rfl, andB]
  have hd : hi (dv 4 v) = hi v >>> 4 ^^^ ((((lo v &&& 15#64) <<< 60 ^^^ (lo v &&& 15#64) <<< 59) ^^^ (lo v &&& 15#64) <<< 58) ^^^ (lo v &&& 15#64) <<< 53) := hi_dv 4 60 59 58 53 15#64 rfl rfl rfl rfl rfl v
  have e2 : xor64 ((B (hi v)).fdiv 16) (xor64 (xor64 (xor64 (IntKind.u64.wrap (and64 (B (lo v)) 15 * 1152921504606846976)) (IntKind.u64.wrap (and64 (B (lo v)) 15 * 576460752303423488))) (IntKind.u64.wrap (and64 (B (lo v)) 15 * 288230376151711744))) (IntKind.u64.wrap (and64 (B (lo v)) 15 * 9007199254740992))) = B (hi (hn 4 v)) := by
    rw [← q, hd, ea, ← xorB, ← xorB, ← xorB, ← xorB]
    have s1 : IntKind.u64.wrap (B (lo v &&& 15#64) * 1152921504606846976) = B ((lo v &&& 15#64) <<< 60) := shlB _ 60 1152921504606846976 rfl
    have s2 : IntKind.u64.wrap (B (lo v &&& 15#64) * 576460752303423488) = B ((lo v &&& 15#64) <<< 59) := shlB _ 59 576460752303423488 rfl
    have s3 : IntKind.u64.wrap (B (lo v &&& 15#64) * 288230376151711744) = B ((lo v &&& 15#64) <<< 58) := shlB _ 58 288230376151711744 rfl
    have s4 : IntKind.u64.wrap (B (lo v &&& 15#64) * 9007199254740992) = B ((lo v &&& 15#64) <<< 53) := shlB _ 53 9007199254740992 rfl
    have s5 : (B (hi v)).fdiv 16 = B (hi v >>> 4) := shrB _ 4 16 rfl
    rw [s1, s2, s3, s4, s5]
  unfold wd
  rw [← e1, ← e2]
  refine CallOK.from0 hmix Tryd.f76 0 fn76 (by kernel_rfl) (by kernel_rfl) (fun w ρ h1 h2 => ?_)
  refine AG.rk 10 [4] [4] 5 (todo' := [.code (sub (codeOf Tryd.f76) [1, 1, 1, 1, 1])]) (st' := ⟨mkT 51 [(4, .p 4 0)], [(4, .own [Value.int .u64 (IntKind.wrap .u64 (↑(BitVec.toNat (BitVec.ofInt 64 (Int.fdiv (B (lo v)) 16) ||| BitVec.ofInt 64 (IntKind.wrap .u64 (B (hi v) * 1152921504606846976)))) : Int)), Value.int .u64 (IntKind.wrap .u64 (↑(BitVec.toNat (BitVec.ofInt 64 (Int.fdiv (B (hi v)) 16) ^^^ BitVec.ofInt 64 (IntKind.wrap .u64 (↑(BitVec.toNat (BitVec.ofInt 64 (IntKind.wrap .u64 (↑(BitVec.toNat (BitVec.ofInt 64 (IntKind.wrap .u64 (↑(BitVec.toNat (BitVec.ofInt 64 (IntKind.wrap .u64 (IntKind.wrap .u64 (↑(BitVec.toNat (BitVec.ofInt 64 (B (lo v)) &&& BitVec.ofInt 64 15)) : Int) * 1152921504606846976)) ^^^ BitVec.ofInt 64 (IntKind.wrap .u64 (IntKind.wrap .u64 (↑(BitVec.toNat (BitVec.ofInt 64 (B (lo v)) &&& BitVec.ofInt 64 15)) : Int) * 576460752303423488)))) : Int)) ^^^ BitVec.ofInt 64 (IntKind.wrap .u64 (IntKind.wrap .u64 (↑(BitVec.toNat (BitVec.ofInt 64 (B (lo v)) &&& BitVec.ofInt 64 15)) : Int) * 288230376151711744)))) : Int)) ^^^ BitVec.ofInt 64 (IntKind.wrap .u64 (IntKind.wrap .u64 (↑(BitVec.toNat (BitVec.ofInt 64 (B (lo v)) &&& BitVec.ofInt 64 15)) : Int) * 9007199254740992)))) : Int)))) : Int))])], 5⟩) (by kernel_rfl) (by kernel_rfl) ?_
  refine AG.fin ([.ex (.agg { toList := [Value.int .u64 (IntKind.wrap .u64 (↑(BitVec.toNat (BitVec.ofInt 64 (Int.fdiv (B (lo v)) 16) ||| BitVec.ofInt 64 (IntKind.wrap .u64 (B (hi v) * 1152921504606846976)))) : Int)), Value.int .u64 (IntKind.wrap .u64 (↑(BitVec.toNat (BitVec.ofInt 64 (Int.fdiv (B (hi v)) 16) ^^^ BitVec.ofInt 64 (IntKind.wrap .u64 (↑(BitVec.toNat (BitVec.ofInt 64 (IntKind.wrap .u64 (↑(BitVec.toNat (BitVec.ofInt 64 (IntKind.wrap .u64 (↑(BitVec.toNat (BitVec.ofInt 64 (IntKind.wrap .u64 (IntKind.wrap .u64 (↑(BitVec.toNat (BitVec.ofInt 64 (B (lo v)) &&& BitVec.ofInt 64 15)) : Int) * 1152921504606846976)) ^^^ BitVec.ofInt 64 (IntKind.wrap .u64 (IntKind.wrap .u64 (↑(BitVec.toNat (BitVec.ofInt 64 (B (lo v)) &&& BitVec.ofInt 64 15)) : Int) * 576460752303423488)))) : Int)) ^^^ BitVec.ofInt 64 (IntKind.wrap .u64 (IntKind.wrap .u64 (↑(BitVec.toNat (BitVec.ofInt 64 (B (lo v)) &&& BitVec.ofInt 64 15)) : Int) * 288230376151711744)))) : Int)) ^^^ BitVec.ofInt 64 (IntKind.wrap .u64 (IntKind.wrap .u64 (↑(BitVec.toNat (BitVec.ofInt 64 (B (lo v)) &&& BitVec.ofInt 64 15)) : Int) * 9007199254740992)))) : Int)))) : Int))] })]) Go.Proofs.Tryd.f76 fn76 (.inr ⟨_, rfl⟩) (obs := [Ob.le 2 2]) (by kernel_rfl) ⟨(Ob.holds_of_dec (by kernel_rfl)), trivial⟩ (by kernel_rfl) trivial (by kernel_rfl)
theorem rplus_0 (v : E) : CallOK Tryd.prog (fun _ => none) 78 [.ex (.agg #[.int .u64 0, .int .u64 0]), .ex (wd v)] [] { val := .ex (wd v) } := by
  have h := rplus_e 0#128 v
  rw [BitVec.zero_xor] at h
  exact h
end Go.Proofs.YtdfbcdgneboilaaDoor.Ab
