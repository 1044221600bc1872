/- Own: mixing has a way back; the law ChachaApart followed (no statement is proved here). -/
import Derived.Test.YtdgfpcncgeocnaaDoorC6
import Derived.KernelRfl
namespace Go.Proofs.YtdgfpcncgeocnaaDoor.Ab
open Go.Proofs
set_option linter.unusedSimpArgs false
set_option linter.unusedVariables false
theorem fn7 : Tryd.prog.funcs[7]? = some Tryd.f7 := by kernel_rfl
theorem add32_inj {x x' y : Int} (hx : R32 x) (hx' : R32 x') (h : add32 x y = add32 x' y) : x = x' := by
  unfold add32 at h; rw [wrap_u32, wrap_u32] at h; unfold R32 at hx hx'; omega
theorem xor32_inj {x x' y : Int} (hx : R32 x) (hx' : R32 x') (h : xor32 x y = xor32 x' y) : x = x' := by
  unfold xor32 at h
  have b : ∀ z : BitVec 32, IntKind.u32.wrap (z.toNat : Int) = (z.toNat : Int) := fun z => by rw [wrap_u32]; have := z.isLt; omega
  rw [b, b] at h
  have h1 : BitVec.ofInt 32 x ^^^ BitVec.ofInt 32 y = BitVec.ofInt 32 x' ^^^ BitVec.ofInt 32 y := BitVec.eq_of_toNat_eq (by omega)
  have h2 : BitVec.ofInt 32 x = BitVec.ofInt 32 x' := by
    have e : ∀ u v : BitVec 32, u ^^^ v ^^^ v = u := fun u v => by rw [BitVec.xor_assoc, BitVec.xor_self, BitVec.xor_zero]
    rw [← e (BitVec.ofInt 32 x) (BitVec.ofInt 32 y), h1, e]
  have h3 := congrArg BitVec.toNat h2
  rw [bv_nat x hx, bv_nat x' hx'] at h3
  have := hx.1; have := hx'.1; omega
theorem r32_nat (n : Nat) (h : n < 4294967296) : R32 (n : Int) := ⟨Int.natCast_nonneg n, by omega⟩
theorem rot32_sum (x : Nat) (hx : x < 4294967296) (k : Nat) (h0 : 0 < k) (hk : k < 32) : rot32 (x : Int) k = ((x * 2 ^ k % 4294967296 + x / 2 ^ (32 - k) : Nat) : Int) := by
  unfold rot32
  have hlow : x / 2 ^ (32 - k) < 2 ^ k := by
    rw [Nat.div_lt_iff_lt_mul (Nat.pow_pos (by decide)), ← Nat.pow_add, show k + (32 - k) = 32 by omega]; exact hx
  have e1 : IntKind.u32.wrap ((x : Int) * 2 ^ k) = ((x * 2 ^ k % 4294967296 : Nat) : Int) := by rw [wrap_u32]; simp
  have e2 : (x : Int).fdiv (2 ^ (32 - k)) = ((x / 2 ^ (32 - k) : Nat) : Int) := by
    rw [Int.fdiv_eq_ediv_of_nonneg _ (Int.le_of_lt (Int.pow_pos (by decide)))]; simp
  rw [e1, e2]
  have hm : x * 2 ^ k % 4294967296 = (x % 2 ^ (32 - k)) * 2 ^ k := by
    have : (4294967296 : Nat) = 2 ^ (32 - k) * 2 ^ k := by rw [← Nat.pow_add, show 32 - k + k = 32 by omega]
    rw [this, Nat.mul_mod_mul_right]
  have hb1 : x * 2 ^ k % 4294967296 < 4294967296 := Nat.mod_lt _ (by decide)
  have hb2 : x / 2 ^ (32 - k) < 4294967296 := Nat.lt_of_le_of_lt (Nat.div_le_self _ _) hx
  rw [BitVec.toNat_or, bv_nat _ (r32_nat _ hb1), bv_nat _ (r32_nat _ hb2), Int.toNat_natCast, Int.toNat_natCast, Nat.or_comm, hm, or_sum _ _ _ hlow]
  have hsum : x / 2 ^ (32 - k) + x % 2 ^ (32 - k) * 2 ^ k < 4294967296 := by
    have h1 : x % 2 ^ (32 - k) < 2 ^ (32 - k) := Nat.mod_lt _ (Nat.pow_pos (by decide))
    have h2 : (x % 2 ^ (32 - k) + 1) * 2 ^ k ≤ 2 ^ (32 - k) * 2 ^ k := Nat.mul_le_mul_right _ h1
    rw [← Nat.pow_add, show 32 - k + k = 32 by omega, Nat.add_mul] at h2
    omega
  rw [wrap_u32]
  generalize x / 2 ^ (32 - k) = q at *
  generalize x % 2 ^ (32 - k) * 2 ^ k = z at *
  omega
theorem rot32_inj {x x' : Int} (k : Nat) (h0 : 0 < k) (hk : k < 32) (hx : R32 x) (hx' : R32 x') (h : rot32 x k = rot32 x' k) : x = x' := by
  obtain ⟨a, rfl⟩ := Int.eq_ofNat_of_zero_le hx.1
  obtain ⟨b, rfl⟩ := Int.eq_ofNat_of_zero_le hx'.1
  have ha := hx.2; have hb := hx'.2
  rw [rot32_sum a (by omega) k h0 hk, rot32_sum b (by omega) k h0 hk] at h
  have hm : ∀ z : Nat, z * 2 ^ k % 4294967296 = (z % 2 ^ (32 - k)) * 2 ^ k := fun z => by
    have : (4294967296 : Nat) = 2 ^ (32 - k) * 2 ^ k := by rw [← Nat.pow_add, show 32 - k + k = 32 by omega]
    rw [this, Nat.mul_mod_mul_right]
  have hlow : ∀ z : Nat, z < 4294967296 → z / 2 ^ (32 - k) < 2 ^ k := fun z hz => by
    rw [Nat.div_lt_iff_lt_mul (Nat.pow_pos (by decide)), ← Nat.pow_add, show k + (32 - k) = 32 by omega]; exact hz
  have la := hlow a (by omega); have lb := hlow b (by omega)
  rw [hm, hm] at h
  have h : a % 2 ^ (32 - k) * 2 ^ k + a / 2 ^ (32 - k) = b % 2 ^ (32 - k) * 2 ^ k + b / 2 ^ (32 - k) := by omega
  have h1 : a / 2 ^ (32 - k) = b / 2 ^ (32 - k) := by
    have := congrArg (· % 2 ^ k) h
    simp only [Nat.mul_comm _ (2 ^ k), Nat.mul_add_mod, Nat.mod_eq_of_lt la, Nat.mod_eq_of_lt lb] at this
    exact this
  have h2 : a % 2 ^ (32 - k) = b % 2 ^ (32 - k) := by
    have hp : 0 < 2 ^ k := Nat.pow_pos (by decide)
    have : a % 2 ^ (32 - k) * 2 ^ k = b % 2 ^ (32 - k) * 2 ^ k := by omega
    exact Nat.eq_of_mul_eq_mul_right hp this
  have := Nat.div_add_mod a (2 ^ (32 - k))
  have := Nat.div_add_mod b (2 ^ (32 - k))
  rw [h1, h2] at *
  omega
theorem r32_xor (x y : Int) : R32 (xor32 x y) := r32_wrap _
/-- A quarter has its way back. -/
theorem quarter_inj {a b c d a' b' c' d' : Int} (ha : R32 a) (hb : R32 b) (hc : R32 c) (hd : R32 d) (ha' : R32 a') (hb' : R32 b') (hc' : R32 c') (hd' : R32 d')
    (eA : qA a b c d = qA a' b' c' d') (eB : qB a b c d = qB a' b' c' d') (eC : qC a b c d = qC a' b' c' d') (eD : qD a b c d = qD a' b' c' d') : a = a' ∧ b = b' ∧ c = c' ∧ d = d' := by
  have r1 : ∀ x y, R32 (qA1 x y) := fun x y => r32_add _ _
  have r2 : ∀ x y z, R32 (qD1 x y z) := fun x y z => r32_rot _ _
  have r3 : ∀ x y z u, R32 (qC1 x y z u) := fun x y z u => r32_add _ _
  have r4 : ∀ x y z u, R32 (qB1 x y z u) := fun x y z u => r32_rot _ _
  have b1 : qB1 a b c d = qB1 a' b' c' d' := by
    unfold qB at eB
    have := rot32_inj 7 (by decide) (by decide) (r32_xor _ _) (r32_xor _ _) eB
    rw [eC] at this
    exact xor32_inj (r4 _ _ _ _) (r4 _ _ _ _) this
  have c1 : qC1 a b c d = qC1 a' b' c' d' := by
    have h := eC
    unfold qC at h
    rw [eD] at h
    exact add32_inj (r3 _ _ _ _) (r3 _ _ _ _) h
  have d1 : qD1 a b d = qD1 a' b' d' := by
    have h := eD
    unfold qD at h
    have := rot32_inj 8 (by decide) (by decide) (r32_xor _ _) (r32_xor _ _) h
    rw [eA] at this
    exact xor32_inj (r2 _ _ _) (r2 _ _ _) this
  have a1 : qA1 a b = qA1 a' b' := by
    have h := eA
    unfold qA at h
    rw [b1] at h
    exact add32_inj (r1 _ _) (r1 _ _) h
  have hb2 : b = b' := by
    have h := b1
    unfold qB1 at h
    have := rot32_inj 12 (by decide) (by decide) (r32_xor _ _) (r32_xor _ _) h
    rw [c1] at this
    exact xor32_inj hb hb' this
  have hc2 : c = c' := by
    have h := c1
    unfold qC1 at h
    rw [d1] at h
    exact add32_inj hc hc' h
  have hd2 : d = d' := by
    have h := d1
    unfold qD1 at h
    have := rot32_inj 16 (by decide) (by decide) (r32_xor _ _) (r32_xor _ _) h
    rw [a1] at this
    exact xor32_inj hd hd' this
  refine ⟨?_, hb2, hc2, hd2⟩
  have h := a1
  unfold qA1 at h
  rw [hb2] at h
  exact add32_inj ha ha' h
def S16 (s : Nat → Int) : Prop := ∀ j, j < 16 → R32 (s j)
theorem s16_qs {s : Nat → Int} (h : S16 s) (a b c d : Nat) : S16 (qs s a b c d) := fun j hj => r32_qs s a b c d j (.inl (h j hj))
theorem qs_inj {s t : Nat → Int} (hs : S16 s) (ht : S16 t) (a b c d : Nat) (ha : a < 16) (hb : b < 16) (hc : c < 16) (hd : d < 16) (n1 : a ≠ b) (n2 : a ≠ c) (n3 : a ≠ d) (n4 : b ≠ c) (n5 : b ≠ d) (n6 : c ≠ d)
    (h : ∀ j, j < 16 → qs s a b c d j = qs t a b c d j) : ∀ j, j < 16 → s j = t j := by
  have hA := h a ha; have hB := h b hb; have hC := h c hc; have hD := h d hd
  have A : ∀ u : Nat → Int, qs u a b c d a = qA (u a) (u b) (u c) (u d) := fun u => by simp [qs]
  have B : ∀ u : Nat → Int, qs u a b c d b = qB (u a) (u b) (u c) (u d) := fun u => by simp [qs, Ne.symm n1]
  have C : ∀ u : Nat → Int, qs u a b c d c = qC (u a) (u b) (u c) (u d) := fun u => by simp [qs, Ne.symm n2, Ne.symm n4]
  have D : ∀ u : Nat → Int, qs u a b c d d = qD (u a) (u b) (u c) (u d) := fun u => by simp [qs, Ne.symm n3, Ne.symm n5, Ne.symm n6]
  rw [A, A] at hA; rw [B, B] at hB; rw [C, C] at hC; rw [D, D] at hD
  obtain ⟨e1, e2, e3, e4⟩ := quarter_inj (hs a ha) (hs b hb) (hs c hc) (hs d hd) (ht a ha) (ht b hb) (ht c hc) (ht d hd) hA hB hC hD
  intro j hj
  by_cases ja : j = a
  · rw [ja]; exact e1
  by_cases jb : j = b
  · rw [jb]; exact e2
  by_cases jc : j = c
  · rw [jc]; exact e3
  by_cases jd : j = d
  · rw [jd]; exact e4
  have := h j hj
  simpa [qs, ja, jb, jc, jd] using this
theorem two_inj {s t : Nat → Int} (hs : S16 s) (ht : S16 t) (h : ∀ j, j < 16 → two s j = two t j) : ∀ j, j < 16 → s j = t j := by
  unfold two at h
  have s1 := s16_qs hs 0 4 8 12; have t1 := s16_qs ht 0 4 8 12
  have s2 := s16_qs s1 1 5 9 13; have t2 := s16_qs t1 1 5 9 13
  have s3 := s16_qs s2 2 6 10 14; have t3 := s16_qs t2 2 6 10 14
  have s4 := s16_qs s3 3 7 11 15; have t4 := s16_qs t3 3 7 11 15
  have s5 := s16_qs s4 0 5 10 15; have t5 := s16_qs t4 0 5 10 15
  have s6 := s16_qs s5 1 6 11 12; have t6 := s16_qs t5 1 6 11 12
  have s7 := s16_qs s6 2 7 8 13; have t7 := s16_qs t6 2 7 8 13
  have h := qs_inj s7 t7 3 4 9 14 (by decide) (by decide) (by decide) (by decide) (by decide) (by decide) (by decide) (by decide) (by decide) (by decide) h
  have h := qs_inj s6 t6 2 7 8 13 (by decide) (by decide) (by decide) (by decide) (by decide) (by decide) (by decide) (by decide) (by decide) (by decide) h
  have h := qs_inj s5 t5 1 6 11 12 (by decide) (by decide) (by decide) (by decide) (by decide) (by decide) (by decide) (by decide) (by decide) (by decide) h
  have h := qs_inj s4 t4 0 5 10 15 (by decide) (by decide) (by decide) (by decide) (by decide) (by decide) (by decide) (by decide) (by decide) (by decide) h
  have h := qs_inj s3 t3 3 7 11 15 (by decide) (by decide) (by decide) (by decide) (by decide) (by decide) (by decide) (by decide) (by decide) (by decide) h
  have h := qs_inj s2 t2 2 6 10 14 (by decide) (by decide) (by decide) (by decide) (by decide) (by decide) (by decide) (by decide) (by decide) (by decide) h
  have h := qs_inj s1 t1 1 5 9 13 (by decide) (by decide) (by decide) (by decide) (by decide) (by decide) (by decide) (by decide) (by decide) (by decide) h
  exact qs_inj hs ht 0 4 8 12 (by decide) (by decide) (by decide) (by decide) (by decide) (by decide) (by decide) (by decide) (by decide) (by decide) h
theorem twoN_inj : ∀ (n : Nat) {s t : Nat → Int}, S16 s → S16 t → (∀ j, j < 16 → twoN n s j = twoN n t j) → ∀ j, j < 16 → s j = t j
  | 0, _, _, _, _, h => h
  | n + 1, s, t, hs, ht, h => two_inj hs ht (twoN_inj n (fun j hj => r32_two s j hj) (fun j hj => r32_two t j hj) h)
theorem mixr_eq (r : Int) (s t : Nat → Int) (hs : S16 s) (ht : S16 t) : eqL [mixr r s 0, mixr r s 1, mixr r s 2, mixr r s 3, mixr r s 4, mixr r s 5, mixr r s 6, mixr r s 7, mixr r s 8, mixr r s 9, mixr r s 10, mixr r s 11, mixr r s 12, mixr r s 13, mixr r s 14, mixr r s 15] [mixr r t 0, mixr r t 1, mixr r t 2, mixr r t 3, mixr r t 4, mixr r t 5, mixr r t 6, mixr r t 7, mixr r t 8, mixr r t 9, mixr r t 10, mixr r t 11, mixr r t 12, mixr r t 13, mixr r t 14, mixr r t 15] = eqL [s 0, s 1, s 2, s 3, s 4, s 5, s 6, s 7, s 8, s 9, s 10, s 11, s 12, s 13, s 14, s 15] [t 0, t 1, t 2, t 3, t 4, t 5, t 6, t 7, t 8, t 9, t 10, t 11, t 12, t 13, t 14, t 15] := by
  rw [Bool.eq_iff_iff]
  have row : ∀ u v : Nat → Int, eqL [u 0, u 1, u 2, u 3, u 4, u 5, u 6, u 7, u 8, u 9, u 10, u 11, u 12, u 13, u 14, u 15] [v 0, v 1, v 2, v 3, v 4, v 5, v 6, v 7, v 8, v 9, v 10, v 11, v 12, v 13, v 14, v 15] = true ↔ ∀ j, j < 16 → u j = v j := fun u v => by
    rw [eqL_iff]
    show (List.range 16).map u = (List.range 16).map v ↔ _
    refine ⟨fun h j hj => ?_, fun h => List.map_congr_left fun j hj => h j (by simpa using hj)⟩
    have := congrArg (fun l => l[j]?) h
    simpa [hj] using this
  rw [row, row]
  exact ⟨fun h => twoN_inj _ hs ht h, fun h => twoN_congr _ h⟩
theorem apart_ok (s t : Nat → Int) (hs : S16 s) (ht : S16 t) (r : Int) : CallOK Tryd.prog (fun g => [(0, 0)].lookup g) 7 [.ex (.agg (ar32 16 s).toArray), .ex (.agg (ar32 16 t).toArray), .ex (.int .i64 r)] [(0, .view (lets.map (Value.int .u32)))] { val := .ex (.bool true) } := by
  by_cases hr : r = 8 ∨ r = 12 ∨ r = 20
  · have e0 := mixr_eq r s t hs ht
    have e0' : eqL (List.map (mixr r s) (List.range 16)) (List.map (mixr r t) (List.range 16)) = eqL (List.map s (List.range 16)) (List.map t (List.range 16)) := e0
    have e3 : ∀ x : Bool, (x == x) = true := fun x => by cases x <;> rfl
    refine CallOK.from hmix Tryd.f7 1 fn7 (by kernel_rfl) (by kernel_rfl) (fun w ρ h1 h2 => ?_)
    refine AG.rk 4 [2, 3, 4] [0, 1, 5] 6 (todo' := [.code (sub (codeOf Tryd.f7) [1, 0, 0]), .code (sub (codeOf Tryd.f7) [1, 0, 1]), .code (sub (codeOf Tryd.f7) [1, 1])]) (st' := ⟨mkT 44 [(2, .ex (.int .i64 r)), (3, .p 1 0), (4, .p 5 0)], [(0, .view [Value.int .u32 1634760805, Value.int .u32 857760878, Value.int .u32 2036477234, Value.int .u32 1797285236]), (1, .own (ar32 16 s)), (5, .own (ar32 16 t))], 6⟩) (by kernel_rfl) (by kernel_rfl) ?_
    refine AG.gk [] [(1, { val := .ex (.bool true) })] [2, 3, 4, 13] [0, 1, 5] 6 (st' := ⟨mkT 44 [(2, .ex (.int .i64 r)), (3, .p 1 0), (4, .p 5 0), (13, .ex (.bool false))], [(0, .view [Value.int .u32 1634760805, Value.int .u32 857760878, Value.int .u32 2036477234, Value.int .u32 1797285236]), (1, .own (ar32 16 s)), (5, .own (ar32 16 t))], 6⟩) (obs := [Ob.call (fun g => List.lookup g [(0, 0)]) 15 [.ex (.int .i64 r)] [] { val := .ex (.bool true) }]) (by kernel_rfl) (by kernel_rfl) ⟨((Go.Proofs.YtdgfpcncgeocnaaDoor.Ab.right_yes (r) (by first | assumption | omega | (simp; done) | (simp; omega))).gl), trivial⟩ ?_
    refine AG.rk 3 [2, 3, 4] [0, 1, 5] 6 (todo' := [.code (sub (codeOf Tryd.f7) [1, 1, 0]), .code (sub (codeOf Tryd.f7) [1, 1, 1])]) (st' := ⟨mkT 44 [(2, .ex (.int .i64 r)), (3, .p 1 0), (4, .p 5 0)], [(0, .view [Value.int .u32 1634760805, Value.int .u32 857760878, Value.int .u32 2036477234, Value.int .u32 1797285236]), (1, .own (ar32 16 s)), (5, .own (ar32 16 t))], 6⟩) (by kernel_rfl) (by kernel_rfl) ?_
    refine AG.gk [] [(0, { val := .ex (.agg { toList := ar32 16 s }) }), (2, { val := .tup [.ex (.agg (List.toArray (ar32 16 (mixr r s)))), .ex (.int .i64 0)] })] [2, 3, 4, 7, 8] [0, 1, 5, 30] 31 (st' := ⟨mkT 44 [(2, .ex (.int .i64 r)), (3, .p 1 0), (4, .p 5 0), (7, .p 30 0), (8, .ex (.int .i64 0))], [(0, .view [Value.int .u32 1634760805, Value.int .u32 857760878, Value.int .u32 2036477234, Value.int .u32 1797285236]), (1, .own (ar32 16 s)), (5, .own (ar32 16 t)), (30, .own (ar32 16 (mixr r s)))], 31⟩) (obs := [Ob.eq (.ex (.agg { toList := ar32 16 s })) (.ex (.agg { toList := ar32 16 s })), Ob.le 16 16, Ob.call (fun g => List.lookup g [(0, 0)]) 14 [.ex (.agg { toList := ar32 16 s }), .ex (.int .i64 r)] [] { val := .tup [.ex (.agg (List.toArray (ar32 16 (mixr r s)))), .ex (.int .i64 0)] }]) (by kernel_rfl) (by kernel_rfl) ⟨(by first | (simp only [Ob.holds, e0, e0', e3]; done) | (simp only [Ob.holds, e0, e0', e3]; rfl)), (by first | (simp only [Ob.holds]; omega) | (simp [Ob.holds]; done) | (simp [Ob.holds]; omega) | assumption | ((repeat (first | exact one_map _ _ | exact one_arr _ _ _ | exact one_rep _ _ _ | exact u8_map _ | exact u8_arr _ _ | (refine one_take ?_ _) | (refine one_drop ?_ _) | (refine one_app ?_ ?_) | (refine u8_take ?_ _) | (refine u8_drop ?_ _) | (refine u8_app ?_ ?_) | rfl)); done) | (exact Ob.holds_of_dec (by kernel_rfl))), ((Go.Proofs.YtdgfpcncgeocnaaDoor.Ab.mix_ok (s) (r) (by first | assumption | omega | (simp; done) | (simp; omega))).gl), trivial⟩ ?_
    refine AG.rk 1 [2, 3, 4, 7, 8] [0, 1, 5, 30] 31 (todo' := [.code (sub (codeOf Tryd.f7) [1, 1, 1, 0]), .code (sub (codeOf Tryd.f7) [1, 1, 1, 1])]) (st' := ⟨mkT 44 [(2, .ex (.int .i64 r)), (3, .p 1 0), (4, .p 5 0), (7, .p 30 0), (8, .ex (.int .i64 0))], [(0, .view [Value.int .u32 1634760805, Value.int .u32 857760878, Value.int .u32 2036477234, Value.int .u32 1797285236]), (1, .own (ar32 16 s)), (5, .own (ar32 16 t)), (30, .own (ar32 16 (mixr r s)))], 31⟩) (by kernel_rfl) (by kernel_rfl) ?_
    refine AG.gk [] [(0, { val := .ex (.agg { toList := ar32 16 t }) }), (2, { val := .tup [.ex (.agg (List.toArray (ar32 16 (mixr r t)))), .ex (.int .i64 0)] })] [3, 4, 7, 8, 9, 10] [0, 1, 5, 30, 55] 56 (st' := ⟨mkT 44 [(3, .p 1 0), (4, .p 5 0), (7, .p 30 0), (8, .ex (.int .i64 0)), (9, .p 55 0), (10, .ex (.int .i64 0))], [(0, .view [Value.int .u32 1634760805, Value.int .u32 857760878, Value.int .u32 2036477234, Value.int .u32 1797285236]), (1, .own (ar32 16 s)), (5, .own (ar32 16 t)), (30, .own (ar32 16 (mixr r s))), (55, .own (ar32 16 (mixr r t)))], 56⟩) (obs := [Ob.eq (.ex (.agg { toList := ar32 16 t })) (.ex (.agg { toList := ar32 16 t })), Ob.le 16 16, Ob.call (fun g => List.lookup g [(0, 0)]) 14 [.ex (.agg { toList := ar32 16 t }), .ex (.int .i64 r)] [] { val := .tup [.ex (.agg (List.toArray (ar32 16 (mixr r t)))), .ex (.int .i64 0)] }]) (by kernel_rfl) (by kernel_rfl) ⟨(by first | (simp only [Ob.holds, e0, e0', e3]; done) | (simp only [Ob.holds, e0, e0', e3]; rfl)), (by first | (simp only [Ob.holds]; omega) | (simp [Ob.holds]; done) | (simp [Ob.holds]; omega) | assumption | ((repeat (first | exact one_map _ _ | exact one_arr _ _ _ | exact one_rep _ _ _ | exact u8_map _ | exact u8_arr _ _ | (refine one_take ?_ _) | (refine one_drop ?_ _) | (refine one_app ?_ ?_) | (refine u8_take ?_ _) | (refine u8_drop ?_ _) | (refine u8_app ?_ ?_) | rfl)); done) | (exact Ob.holds_of_dec (by kernel_rfl))), ((Go.Proofs.YtdgfpcncgeocnaaDoor.Ab.mix_ok (t) (r) (by first | assumption | omega | (simp; done) | (simp; omega))).gl), trivial⟩ ?_
    refine AG.rk 1 [3, 4, 7, 8, 9, 10] [0, 1, 5, 30, 55] 56 (todo' := [.code (sub (codeOf Tryd.f7) [1, 1, 1, 1, 0]), .code (sub (codeOf Tryd.f7) [1, 0, 1, 0, 1])]) (st' := ⟨mkT 44 [(3, .p 1 0), (4, .p 5 0), (7, .p 30 0), (8, .ex (.int .i64 0)), (9, .p 55 0), (10, .ex (.int .i64 0))], [(0, .view [Value.int .u32 1634760805, Value.int .u32 857760878, Value.int .u32 2036477234, Value.int .u32 1797285236]), (1, .own (ar32 16 s)), (5, .own (ar32 16 t)), (30, .own (ar32 16 (mixr r s))), (55, .own (ar32 16 (mixr r t)))], 56⟩) (by kernel_rfl) (by kernel_rfl) ?_
    refine AG.gk [] [(7, { val := .ex (.agg { toList := ar32 16 (mixr r s) }) }), (8, { val := .ex (.agg { toList := ar32 16 (mixr r t) }) }), (9, { val := .ex (.bool (eqL (List.map s (List.range 16)) (List.map t (List.range 16)))) }), (10, { val := .ex (.agg { toList := ar32 16 s }) }), (11, { val := .ex (.agg { toList := ar32 16 t }) }), (13, { val := .ex (.bool true) }), (16, useR [(0, 0, 0)] 120 ({ val := .ex (.bool true) }))] [6] [0] 1 (st' := ⟨mkT 44 [(6, .ex (.bool true))], [(0, .view [Value.int .u32 1634760805, Value.int .u32 857760878, Value.int .u32 2036477234, Value.int .u32 1797285236])], 1⟩) (obs := [Ob.eq (.ex (.agg { toList := ar32 16 (mixr r s) })) (.ex (.agg { toList := ar32 16 (mixr r s) })), Ob.le 16 16, Ob.eq (.ex (.agg { toList := ar32 16 (mixr r t) })) (.ex (.agg { toList := ar32 16 (mixr r t) })), Ob.le 16 16, Ob.eq (.ex (.bool (eqL (List.map (mixr r s) (List.range 16)) (List.map (mixr r t) (List.range 16))))) (.ex (.bool (eqL (List.map s (List.range 16)) (List.map t (List.range 16))))), Ob.eq (.ex (.agg { toList := ar32 16 s })) (.ex (.agg { toList := ar32 16 s })), Ob.le 16 16, Ob.eq (.ex (.agg { toList := ar32 16 t })) (.ex (.agg { toList := ar32 16 t })), Ob.le 16 16, Ob.eq (.ex (.bool (eqL (List.map s (List.range 16)) (List.map t (List.range 16)) == eqL (List.map s (List.range 16)) (List.map t (List.range 16))))) (.ex (.bool true)), Ob.call (fun g => List.lookup g [(0, 0)]) 16 [] [(0, .view [Value.int .u32 1634760805, Value.int .u32 857760878, Value.int .u32 2036477234, Value.int .u32 1797285236])] (useR [(0, 0, 0)] 120 { val := .ex (.bool true) })]) (by kernel_rfl) (by kernel_rfl) ⟨(by first | (simp only [Ob.holds, e0, e0', e3]; done) | (simp only [Ob.holds, e0, e0', e3]; rfl)), (by first | (simp only [Ob.holds]; omega) | (simp [Ob.holds]; done) | (simp [Ob.holds]; omega) | assumption | ((repeat (first | exact one_map _ _ | exact one_arr _ _ _ | exact one_rep _ _ _ | exact u8_map _ | exact u8_arr _ _ | (refine one_take ?_ _) | (refine one_drop ?_ _) | (refine one_app ?_ ?_) | (refine u8_take ?_ _) | (refine u8_drop ?_ _) | (refine u8_app ?_ ?_) | rfl)); done) | (exact Ob.holds_of_dec (by kernel_rfl))), (by first | (simp only [Ob.holds, e0, e0', e3]; done) | (simp only [Ob.holds, e0, e0', e3]; rfl)), (by first | (simp only [Ob.holds]; omega) | (simp [Ob.holds]; done) | (simp [Ob.holds]; omega) | assumption | ((repeat (first | exact one_map _ _ | exact one_arr _ _ _ | exact one_rep _ _ _ | exact u8_map _ | exact u8_arr _ _ | (refine one_take ?_ _) | (refine one_drop ?_ _) | (refine one_app ?_ ?_) | (refine u8_take ?_ _) | (refine u8_drop ?_ _) | (refine u8_app ?_ ?_) | rfl)); done) | (exact Ob.holds_of_dec (by kernel_rfl))), (by first | (simp only [Ob.holds, e0, e0', e3]; done) | (simp only [Ob.holds, e0, e0', e3]; rfl)), (by first | (simp only [Ob.holds, e0, e0', e3]; done) | (simp only [Ob.holds, e0, e0', e3]; rfl)), (by first | (simp only [Ob.holds]; omega) | (simp [Ob.holds]; done) | (simp [Ob.holds]; omega) | assumption | ((repeat (first | exact one_map _ _ | exact one_arr _ _ _ | exact one_rep _ _ _ | exact u8_map _ | exact u8_arr _ _ | (refine one_take ?_ _) | (refine one_drop ?_ _) | (refine one_app ?_ ?_) | (refine u8_take ?_ _) | (refine u8_drop ?_ _) | (refine u8_app ?_ ?_) | rfl)); done) | (exact Ob.holds_of_dec (by kernel_rfl))), (by first | (simp only [Ob.holds, e0, e0', e3]; done) | (simp only [Ob.holds, e0, e0', e3]; rfl)), (by first | (simp only [Ob.holds]; omega) | (simp [Ob.holds]; done) | (simp [Ob.holds]; omega) | assumption | ((repeat (first | exact one_map _ _ | exact one_arr _ _ _ | exact one_rep _ _ _ | exact u8_map _ | exact u8_arr _ _ | (refine one_take ?_ _) | (refine one_drop ?_ _) | (refine one_app ?_ ?_) | (refine u8_take ?_ _) | (refine u8_drop ?_ _) | (refine u8_app ?_ ?_) | rfl)); done) | (exact Ob.holds_of_dec (by kernel_rfl))), (by first | (simp only [Ob.holds, e0, e0', e3]; done) | (simp only [Ob.holds, e0, e0', e3]; rfl)), (CallOK.at [(0, 0, 0)] 120 (Go.Proofs.YtdgfpcncgeocnaaDoor.Ab.awake_ok ) .nil (.cons rfl rfl ⟨_, rfl, (by (first | rfl | exact cov_all _ | (simp; done) | (simp; omega) | (rw [List.map_take, List.map_drop]) | (simp [List.map_take, List.map_drop]; done) | (simp [List.map_take, List.map_drop, take_map_len]; done) | (refine cov_len ?_ ?_ <;> simp [List.map_take, List.map_drop, take_map_len] <;> omega) | (refine cov_len ?_ ?_ <;> simp <;> omega) | assumption))⟩ .nil) (by kernel_rfl)), trivial⟩ ?_
    refine AG.fin ([.ex (.bool true)]) Go.Proofs.Tryd.f7 fn7 (.inr ⟨_, rfl⟩) (obs := []) (by kernel_rfl) trivial (by kernel_rfl) trivial (by kernel_rfl)
  · have f1 : (r == 8) = false := by simp; omega
    have f2 : (r == 12) = false := by simp; omega
    have f3 : (r == 20) = false := by simp; omega
    refine CallOK.from hmix Tryd.f7 1 fn7 (by kernel_rfl) (by kernel_rfl) (fun w ρ h1 h2 => ?_)
    refine AG.rk 4 [2, 3, 4] [0, 1, 5] 6 (todo' := [.code (sub (codeOf Tryd.f7) [1, 0, 0]), .code (sub (codeOf Tryd.f7) [1, 0, 1]), .code (sub (codeOf Tryd.f7) [1, 1])]) (st' := ⟨mkT 44 [(2, .ex (.int .i64 r)), (3, .p 1 0), (4, .p 5 0)], [(0, .view [Value.int .u32 1634760805, Value.int .u32 857760878, Value.int .u32 2036477234, Value.int .u32 1797285236]), (1, .own (ar32 16 s)), (5, .own (ar32 16 t))], 6⟩) (by kernel_rfl) (by kernel_rfl) ?_
    refine AG.gk [] [(1, { val := .ex (.bool false) })] [2, 3, 4, 13] [0, 1, 5] 6 (st' := ⟨mkT 44 [(2, .ex (.int .i64 r)), (3, .p 1 0), (4, .p 5 0), (13, .ex (.bool true))], [(0, .view [Value.int .u32 1634760805, Value.int .u32 857760878, Value.int .u32 2036477234, Value.int .u32 1797285236]), (1, .own (ar32 16 s)), (5, .own (ar32 16 t))], 6⟩) (obs := [Ob.call (fun g => List.lookup g [(0, 0)]) 15 [.ex (.int .i64 r)] [] { val := .ex (.bool false) }]) (by kernel_rfl) (by kernel_rfl) ⟨((Go.Proofs.YtdgfpcncgeocnaaDoor.Ab.right_no (r) (by first | assumption | omega | (simp; done) | (simp; omega)) (by first | assumption | omega | (simp; done) | (simp; omega)) (by first | assumption | omega | (simp; done) | (simp; omega))).gl), trivial⟩ ?_
    refine AG.rk 3 [6] [0] 1 (todo' := [.code (sub (codeOf Tryd.f7) [1, 0, 1, 0, 1]), .code (sub (codeOf Tryd.f7) [1, 1])]) (st' := ⟨mkT 44 [(6, .ex (.bool true))], [(0, .view [Value.int .u32 1634760805, Value.int .u32 857760878, Value.int .u32 2036477234, Value.int .u32 1797285236])], 1⟩) (by kernel_rfl) (by kernel_rfl) ?_
    refine AG.fin ([.ex (.bool true)]) Go.Proofs.Tryd.f7 fn7 (.inr ⟨_, rfl⟩) (obs := []) (by kernel_rfl) trivial (by kernel_rfl) trivial (by kernel_rfl)
end Go.Proofs.YtdgfpcncgeocnaaDoor.Ab
