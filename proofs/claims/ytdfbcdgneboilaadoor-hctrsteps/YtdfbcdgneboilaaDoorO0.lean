/- Own: numbers, bytes and their reckoning, for all layers (no statement is proved here). -/
import Derived.Test.YtdfbcdgneboilaaDoorA5
import Derived.Test.YtdfbcdgneboilaaDoorProg
import Derived.WalkArith
namespace Go.Proofs.YtdfbcdgneboilaaDoor.Ab
open Go.Proofs Go.RowKit
theorem hmix : Tryd.prog.follows .mixedOrders = true := by kernel_rfl
def ar8 (n : Nat) (s : Nat → Int) : List Value := (List.range n).map fun i => .int .u8 (s i)
def ar32 (n : Nat) (s : Nat → Int) : List Value := (List.range n).map fun i => .int .u32 (s i)
def ar64 (n : Nat) (s : Nat → Int) : List Value := (List.range n).map fun i => .int .u64 (s i)
theorem wrap_u64 (x : Int) : IntKind.u64.wrap x = x % 18446744073709551616 := by simp [IntKind.wrap, IntKind.signed, IntKind.bits]
theorem wrap_u32 (x : Int) : IntKind.u32.wrap x = x % 4294967296 := by rw [IntKind.wrap_u32]
theorem wrap_u8 (x : Int) : IntKind.u8.wrap x = x % 256 := by rw [IntKind.wrap_u8]
theorem wrap64_id (n : Int) (h : -9223372036854775808 ≤ n) (h' : n ≤ 9223372036854775807) : IntKind.i64.wrap n = n := by rw [IntKind.wrap_i64]; omega
def R8 (x : Int) : Prop := 0 ≤ x ∧ x < 256
def R32 (x : Int) : Prop := 0 ≤ x ∧ x < 4294967296
def R64 (x : Int) : Prop := 0 ≤ x ∧ x < 18446744073709551616
theorem r8_wrap (x : Int) : R8 (IntKind.u8.wrap x) := by rw [wrap_u8]; unfold R8; omega
theorem r32_wrap (x : Int) : R32 (IntKind.u32.wrap x) := by rw [wrap_u32]; unfold R32; omega
theorem r64_wrap (x : Int) : R64 (IntKind.u64.wrap x) := by rw [wrap_u64]; unfold R64; omega
theorem ar8_congr {n : Nat} {s t : Nat → Int} (h : ∀ i, i < n → s i = t i) : ar8 n s = ar8 n t := by
  unfold ar8
  exact List.map_congr_left fun i hi => by rw [h i (by simpa using hi)]
theorem ar32_congr {n : Nat} {s t : Nat → Int} (h : ∀ i, i < n → s i = t i) : ar32 n s = ar32 n t := by
  unfold ar32
  exact List.map_congr_left fun i hi => by rw [h i (by simpa using hi)]
theorem ar64_congr {n : Nat} {s t : Nat → Int} (h : ∀ i, i < n → s i = t i) : ar64 n s = ar64 n t := by
  unfold ar64
  exact List.map_congr_left fun i hi => by rw [h i (by simpa using hi)]
theorem length_ar8 (n : Nat) (s : Nat → Int) : (ar8 n s).length = n := by simp [ar8]
theorem length_ar32 (n : Nat) (s : Nat → Int) : (ar32 n s).length = n := by simp [ar32]
theorem length_ar64 (n : Nat) (s : Nat → Int) : (ar64 n s).length = n := by simp [ar64]
theorem getElem_ar8 (n : Nat) (s : Nat → Int) (i : Nat) (h : i < n) : (ar8 n s)[i]? = some (.int .u8 (s i)) := by simp [ar8, h]
/-- A row of bytes that is told place by place. -/
theorem eq_ar8 {l : List Value} {n : Nat} {s : Nat → Int} (hl : l.length = n) (h : ∀ i, i < n → l[i]? = some (.int .u8 (s i))) : l = ar8 n s := by
  apply List.ext_getElem?
  intro i
  by_cases hi : i < n
  · rw [h i hi, getElem_ar8 n s i hi]
  · rw [List.getElem?_eq_none (by omega), List.getElem?_eq_none (by rw [length_ar8]; omega)]
/-- The byte at a place, 0 where there is none. -/
def bAt (bs : List Int) (j : Int) : Int := if 0 ≤ j ∧ j < bs.length then bs.getD j.toNat 0 else 0
theorem bAt_out (bs : List Int) (j : Int) (h : j < 0 ∨ (bs.length : Int) ≤ j) : bAt bs j = 0 := by unfold bAt; rw [if_neg (by omega)]
theorem bAt_in (bs : List Int) (j : Int) (h : 0 ≤ j) (h' : j < bs.length) : bAt bs j = bs.getD j.toNat 0 := by unfold bAt; rw [if_pos ⟨h, h'⟩]
def All8 (bs : List Int) : Prop := ∀ x ∈ bs, R8 x
theorem All8.at {bs : List Int} (h : All8 bs) (j : Int) : R8 (bAt bs j) := by
  unfold bAt
  split
  · rename_i hj
    have hl : j.toNat < bs.length := by omega
    rw [List.getD_eq_getElem?_getD, List.getElem?_eq_getElem hl]
    exact h _ (List.getElem_mem _)
  · exact ⟨by decide, by decide⟩
theorem map_get (bs : List Int) (i : Int) (h : 0 ≤ i) (h' : i < bs.length) (k : IntKind) (d : Value) : (bs.map (Value.int k)).getD i.toNat d = .int k (bAt bs i) := by
  rw [bAt_in bs i h h']
  have hl : i.toNat < bs.length := by omega
  simp [List.getD, List.getElem?_eq_getElem hl]
/-! bits -/
def or32 (x y : Int) : Int := IntKind.u32.wrap ((BitVec.ofInt 32 x ||| BitVec.ofInt 32 y).toNat : Int)
def shl32 (x : Int) (k : Nat) : Int := IntKind.u32.wrap (IntKind.u32.wrap x * 2 ^ k)
def word4 (a b c d : Int) : Int := or32 (or32 (or32 (or32 0 (shl32 a 0)) (shl32 b 8)) (shl32 c 16)) (shl32 d 24)
def or64 (x y : Int) : Int := IntKind.u64.wrap ((BitVec.ofInt 64 x ||| BitVec.ofInt 64 y).toNat : Int)
def shl64 (x : Int) (k : Nat) : Int := IntKind.u64.wrap (IntKind.u64.wrap x * 2 ^ k)
def long8 (a b c d e f g h : Int) : Int := or64 (or64 (or64 (or64 (or64 (or64 (or64 (or64 0 (shl64 a 0)) (shl64 b 8)) (shl64 c 16)) (shl64 d 24)) (shl64 e 32)) (shl64 f 40)) (shl64 g 48)) (shl64 h 56)
def shr32 (x : Int) (k : Nat) : Int := IntKind.u8.wrap (x.fdiv (2 ^ k))
def putw (x : Int) (i : Nat) : Int := shr32 x (8 * i)
def xor8 (x y : Int) : Int := IntKind.u8.wrap ((BitVec.ofInt 8 x ^^^ BitVec.ofInt 8 y).toNat : Int)
theorem r8_xor8 (x y : Int) : R8 (xor8 x y) := r8_wrap _
theorem bv8 (x : Int) (h : R8 x) : (BitVec.ofInt 8 x).toNat = x.toNat := by
  obtain ⟨n, rfl⟩ := Int.eq_ofNat_of_zero_le h.1
  have := h.2
  rw [BitVec.ofInt_natCast, BitVec.toNat_ofNat]
  simp only [Int.toNat_natCast]
  exact Nat.mod_eq_of_lt (by omega)
theorem bv_nat (x : Int) (h : R32 x) : (BitVec.ofInt 32 x).toNat = x.toNat := by
  obtain ⟨n, rfl⟩ := Int.eq_ofNat_of_zero_le h.1
  have := h.2
  rw [BitVec.ofInt_natCast, BitVec.toNat_ofNat]
  simp only [Int.toNat_natCast]
  exact Nat.mod_eq_of_lt (by omega)
theorem bv64 (x : Int) (h : R64 x) : (BitVec.ofInt 64 x).toNat = x.toNat := by
  obtain ⟨n, rfl⟩ := Int.eq_ofNat_of_zero_le h.1
  have := h.2
  rw [BitVec.ofInt_natCast, BitVec.toNat_ofNat]
  simp only [Int.toNat_natCast]
  exact Nat.mod_eq_of_lt (by omega)
theorem xor8_eq (x y : Int) (hx : R8 x) (hy : R8 y) : xor8 x y = ((x.toNat ^^^ y.toNat : Nat) : Int) := by
  unfold xor8
  have : x.toNat ^^^ y.toNat < 2 ^ 8 := Nat.xor_lt_two_pow (by have := hx.2; omega) (by have := hy.2; omega)
  rw [BitVec.toNat_xor, bv8 x hx, bv8 y hy, wrap_u8]
  omega
theorem xor8_comm (x y : Int) : xor8 x y = xor8 y x := by unfold xor8; rw [BitVec.xor_comm]
theorem xor8_back (x y : Int) (hx : R8 x) (hy : R8 y) : xor8 (xor8 x y) y = x := by
  rw [xor8_eq _ _ (r8_xor8 x y) hy, xor8_eq x y hx hy, Int.toNat_natCast, Nat.xor_assoc, Nat.xor_self, Nat.xor_zero]
  have := hx.1; omega
theorem xor8_zero (x : Int) (hx : R8 x) : xor8 x 0 = x := by
  rw [xor8_eq _ _ hx ⟨by decide, by decide⟩]; have := hx.1; simp; omega
theorem or_sum (a b k : Nat) (h : a < 2 ^ k) : a ||| (b * 2 ^ k) = a + b * 2 ^ k := by
  rw [Nat.or_comm, Nat.mul_comm b, ← Nat.two_pow_add_eq_or_of_lt h]; omega
theorem or32_sum (a b k : Nat) (h : a < 2 ^ k) (ha : a < 4294967296) (hb : b * 2 ^ k < 4294967296) (hs : a + b * 2 ^ k < 4294967296) : or32 a ((b * 2 ^ k : Nat) : Int) = ((a + b * 2 ^ k : Nat) : Int) := by
  unfold or32
  rw [BitVec.toNat_or, bv_nat _ ⟨by omega, by omega⟩, bv_nat _ ⟨by omega, by omega⟩, Int.toNat_natCast, Int.toNat_natCast, or_sum _ _ _ h, wrap_u32]
  omega
theorem shl32_mul (x k : Nat) (hx : x < 256) (h : x * 2 ^ k < 4294967296) : shl32 (x : Int) k = ((x * 2 ^ k : Nat) : Int) := by
  unfold shl32
  rw [wrap_u32, wrap_u32]
  have e : ((x : Int) % 4294967296) = x := by omega
  have e2 : ((x * 2 ^ k : Nat) : Int) = (x : Int) * 2 ^ k := by simp
  rw [e, ← e2]
  omega
theorem or64_sum (a b k : Nat) (h : a < 2 ^ k) (ha : a < 18446744073709551616) (hb : b * 2 ^ k < 18446744073709551616) (hs : a + b * 2 ^ k < 18446744073709551616) : or64 a ((b * 2 ^ k : Nat) : Int) = ((a + b * 2 ^ k : Nat) : Int) := by
  unfold or64
  rw [BitVec.toNat_or, bv64 _ ⟨by omega, by omega⟩, bv64 _ ⟨by omega, by omega⟩, Int.toNat_natCast, Int.toNat_natCast, or_sum _ _ _ h, wrap_u64]
  omega
theorem shl64_mul (x k : Nat) (hx : x < 256) (h : x * 2 ^ k < 18446744073709551616) : shl64 (x : Int) k = ((x * 2 ^ k : Nat) : Int) := by
  unfold shl64
  rw [wrap_u64, wrap_u64]
  have e : ((x : Int) % 18446744073709551616) = x := by omega
  have e2 : ((x * 2 ^ k : Nat) : Int) = (x : Int) * 2 ^ k := by simp
  rw [e, ← e2]
  omega
/-- Four bytes are the number that they say. -/
theorem word4_eq (a b c d : Int) (ha : R8 a) (hb : R8 b) (hc : R8 c) (hd : R8 d) : word4 a b c d = a + b * 256 + c * 65536 + d * 16777216 := by
  unfold R8 at ha hb hc hd
  obtain ⟨a, rfl⟩ := Int.eq_ofNat_of_zero_le ha.1
  obtain ⟨b, rfl⟩ := Int.eq_ofNat_of_zero_le hb.1
  obtain ⟨c, rfl⟩ := Int.eq_ofNat_of_zero_le hc.1
  obtain ⟨d, rfl⟩ := Int.eq_ofNat_of_zero_le hd.1
  unfold word4
  rw [shl32_mul a 0 (by omega) (by omega), shl32_mul b 8 (by omega) (by omega), shl32_mul c 16 (by omega) (by omega), shl32_mul d 24 (by omega) (by omega)]
  have z : or32 0 ((a * 2 ^ 0 : Nat) : Int) = ((0 + a * 2 ^ 0 : Nat) : Int) := or32_sum 0 a 0 (by decide) (by decide) (by omega) (by omega)
  rw [z, or32_sum _ b 8 (by omega) (by omega) (by omega) (by omega), or32_sum _ c 16 (by omega) (by omega) (by omega) (by omega), or32_sum _ d 24 (by omega) (by omega) (by omega) (by omega)]
  omega
/-- Eight bytes are the number that they say. -/
theorem long8_eq (a b c d e f g h : Int) (ha : R8 a) (hb : R8 b) (hc : R8 c) (hd : R8 d) (he : R8 e) (hf : R8 f) (hg : R8 g) (hh : R8 h) : long8 a b c d e f g h = a + b * 256 + c * 65536 + d * 16777216 + e * 4294967296 + f * 1099511627776 + g * 281474976710656 + h * 72057594037927936 := by
  unfold R8 at ha hb hc hd he hf hg hh
  obtain ⟨a, rfl⟩ := Int.eq_ofNat_of_zero_le ha.1
  obtain ⟨b, rfl⟩ := Int.eq_ofNat_of_zero_le hb.1
  obtain ⟨c, rfl⟩ := Int.eq_ofNat_of_zero_le hc.1
  obtain ⟨d, rfl⟩ := Int.eq_ofNat_of_zero_le hd.1
  obtain ⟨e, rfl⟩ := Int.eq_ofNat_of_zero_le he.1
  obtain ⟨f, rfl⟩ := Int.eq_ofNat_of_zero_le hf.1
  obtain ⟨g, rfl⟩ := Int.eq_ofNat_of_zero_le hg.1
  obtain ⟨h, rfl⟩ := Int.eq_ofNat_of_zero_le hh.1
  unfold long8
  rw [shl64_mul a 0 (by omega) (by omega), shl64_mul b 8 (by omega) (by omega), shl64_mul c 16 (by omega) (by omega), shl64_mul d 24 (by omega) (by omega), shl64_mul e 32 (by omega) (by omega), shl64_mul f 40 (by omega) (by omega), shl64_mul g 48 (by omega) (by omega), shl64_mul h 56 (by omega) (by omega)]
  have z : or64 0 ((a * 2 ^ 0 : Nat) : Int) = ((0 + a * 2 ^ 0 : Nat) : Int) := or64_sum 0 a 0 (by decide) (by decide) (by omega) (by omega)
  rw [z, or64_sum _ b 8 (by omega) (by omega) (by omega) (by omega), or64_sum _ c 16 (by omega) (by omega) (by omega) (by omega), or64_sum _ d 24 (by omega) (by omega) (by omega) (by omega), or64_sum _ e 32 (by omega) (by omega) (by omega) (by omega), or64_sum _ f 40 (by omega) (by omega) (by omega) (by omega), or64_sum _ g 48 (by omega) (by omega) (by omega) (by omega), or64_sum _ h 56 (by omega) (by omega) (by omega) (by omega)]
  omega
theorem putw_eq (x : Int) (i : Nat) : putw x i = x / 2 ^ (8 * i) % 256 := by
  unfold putw shr32
  rw [wrap_u8, Int.fdiv_eq_ediv_of_nonneg _ (by have := Int.pow_pos (n := 2) (m := 8 * i) (by decide); omega)]
theorem r8_putw (x : Int) (i : Nat) : R8 (putw x i) := by unfold putw shr32; exact r8_wrap _
theorem word4_putw (x : Int) (h : R32 x) : word4 (putw x 0) (putw x 1) (putw x 2) (putw x 3) = x := by
  rw [word4_eq _ _ _ _ (r8_putw _ _) (r8_putw _ _) (r8_putw _ _) (r8_putw _ _), putw_eq, putw_eq, putw_eq, putw_eq]
  unfold R32 at h
  have e0 : (2 : Int) ^ (8 * 0) = 1 := rfl
  have e1 : (2 : Int) ^ (8 * 1) = 256 := rfl
  have e2 : (2 : Int) ^ (8 * 2) = 65536 := rfl
  have e3 : (2 : Int) ^ (8 * 3) = 16777216 := rfl
  rw [e0, e1, e2, e3]
  omega
theorem long8_putw (x : Int) (h : R64 x) : long8 (putw x 0) (putw x 1) (putw x 2) (putw x 3) (putw x 4) (putw x 5) (putw x 6) (putw x 7) = x := by
  rw [long8_eq _ _ _ _ _ _ _ _ (r8_putw _ _) (r8_putw _ _) (r8_putw _ _) (r8_putw _ _) (r8_putw _ _) (r8_putw _ _) (r8_putw _ _) (r8_putw _ _), putw_eq, putw_eq, putw_eq, putw_eq, putw_eq, putw_eq, putw_eq, putw_eq]
  unfold R64 at h
  have e0 : (2 : Int) ^ (8 * 0) = 1 := rfl
  have e1 : (2 : Int) ^ (8 * 1) = 256 := rfl
  have e2 : (2 : Int) ^ (8 * 2) = 65536 := rfl
  have e3 : (2 : Int) ^ (8 * 3) = 16777216 := rfl
  have e4 : (2 : Int) ^ (8 * 4) = 4294967296 := rfl
  have e5 : (2 : Int) ^ (8 * 5) = 1099511627776 := rfl
  have e6 : (2 : Int) ^ (8 * 6) = 281474976710656 := rfl
  have e7 : (2 : Int) ^ (8 * 7) = 72057594037927936 := rfl
  rw [e0, e1, e2, e3, e4, e5, e6, e7]
  omega
theorem r32_word4 (a b c d : Int) : R32 (word4 a b c d) := r32_wrap _
theorem r64_long8 (a b c d e f g h : Int) : R64 (long8 a b c d e f g h) := r64_wrap _
/-- A contract of a call that meets no memory, from the call itself. -/
theorem CallOK.ofCalls {P : Program} {f : FuncId} {vs : List Value} {v : Value} (h : ∀ w, Calls P f vs.toArray w fun e w' => e = .returned v ∧ Below w.heap.size w w') : CallOK P (fun _ => none) f (vs.map .ex) [] { val := .ex v } := by
  intro ρ w us hr _ _ _ _ _
  have hu : us = vs := exAll_rel (l := vs.map .ex) (by
    clear hr h
    induction vs with
    | nil => rfl
    | cons x l ih => simp [exAll, ih]) hr
  subst hu
  refine (h w).mono ?_
  rintro e w' ⟨rfl, hb⟩
  exact ⟨v, ρ, rfl, Rho.le_refl ρ, fun _ _ => rfl, .ex v, fun k b hm => (by cases hm), ⟨hb.os, hb.tape, hb.output, hb.size, fun b hb' _ => hb.block b hb'⟩, fun k hk => (by cases hk), fun k hk => (by cases hk)⟩
end Go.Proofs.YtdfbcdgneboilaaDoor.Ab
