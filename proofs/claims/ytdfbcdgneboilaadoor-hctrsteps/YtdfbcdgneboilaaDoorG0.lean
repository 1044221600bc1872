/- Own: fields of 2^128, reckoned (no statement is proved here). -/
import Derived.Test.YtdfbcdgneboilaaDoorN0
namespace Go.Proofs.YtdfbcdgneboilaaDoor.Ab
open Go.Proofs
set_option linter.unusedSimpArgs false
set_option linter.unusedVariables false
abbrev E := BitVec 128
def xsum : Nat → (Nat → E) → E
  | 0, _ => 0#128
  | n + 1, f => xsum n f ^^^ f n
theorem xsum_congr {n : Nat} {f g : Nat → E} (h : ∀ i, i < n → f i = g i) : xsum n f = xsum n g := by
  induction n with
  | zero => rfl
  | succ n ih => unfold xsum; rw [ih (fun i hi => h i (by omega)), h n (by omega)]
theorem xor4 (a b c d : E) : (a ^^^ b) ^^^ (c ^^^ d) = (a ^^^ c) ^^^ (b ^^^ d) := by
  rw [BitVec.xor_assoc, BitVec.xor_assoc, ← BitVec.xor_assoc b c d, BitVec.xor_comm b c, BitVec.xor_assoc c b d]
theorem xsum_xor (n : Nat) (f g : Nat → E) : xsum n (fun i => f i ^^^ g i) = xsum n f ^^^ xsum n g := by
  induction n with
  | zero => simp [xsum]
  | succ n ih => unfold xsum; rw [ih, xor4]
/-- A map that goes over sums. -/
def Lin (L : E → E) : Prop := ∀ a b, L (a ^^^ b) = L a ^^^ L b
theorem Lin.zero {L : E → E} (h : Lin L) : L 0#128 = 0#128 := by
  have := h 0#128 0#128
  rw [BitVec.xor_self, BitVec.xor_self] at this
  exact this
theorem Lin.sum {L : E → E} (h : Lin L) (n : Nat) (f : Nat → E) : L (xsum n f) = xsum n (fun i => L (f i)) := by
  induction n with
  | zero => exact h.zero
  | succ n ih => unfold xsum; rw [h, ih]
theorem Lin.comp {L M : E → E} (h : Lin L) (h' : Lin M) : Lin (fun v => L (M v)) := fun a b => by simp only [h' a b, h (M a) (M b)]
theorem Lin.xor {L M : E → E} (h : Lin L) (h' : Lin M) : Lin (fun v => L v ^^^ M v) := fun a b => by simp only [h a b, h' a b, xor4]
theorem lin_shl (k : Nat) : Lin (fun v => v <<< k) := fun a b => BitVec.shiftLeft_xor_distrib a b k
theorem lin_shr (k : Nat) : Lin (fun v => v >>> k) := fun a b => BitVec.ushiftRight_xor_distrib a b k
theorem lin_and (m : E) : Lin (fun v => v &&& m) := fun a b => by
  apply BitVec.eq_of_getLsbD_eq
  intro j hj
  simp only [BitVec.getLsbD_and, BitVec.getLsbD_xor]
  cases a.getLsbD j <;> cases b.getLsbD j <;> simp
theorem lin_id : Lin (fun v => v) := fun _ _ => rfl
def sel (b : Bool) (v : E) : E := if b then v else 0#128
theorem sel_xor (a b : Bool) (v : E) : sel (a ^^ b) v = sel a v ^^^ sel b v := by
  cases a <;> cases b <;> simp [sel]
theorem sel_lin (b : Bool) : Lin (sel b) := fun x y => by cases b <;> simp [sel]
theorem lin_bit (j : Nat) (c : E) : Lin (fun v => sel (v.getLsbD j) c) := fun a b => by simp only [BitVec.getLsbD_xor, sel_xor]
theorem Lin.sel {L : E → E} (h : Lin L) (b : Bool) (v : E) : L (sel b v) = Ab.sel b (L v) := by cases b <;> simp [Ab.sel, h.zero]
def tp (i : Nat) : E := BitVec.twoPow 128 i
theorem bit_xsum (v : E) (n j : Nat) (hj : j < 128) : (xsum n (fun i => sel (v.getLsbD i) (tp i))).getLsbD j = (v.getLsbD j && decide (j < n)) := by
  induction n with
  | zero => simp [xsum]
  | succ n ih =>
    unfold xsum
    rw [BitVec.getLsbD_xor, ih]
    by_cases h : j = n
    · subst h
      have e3 : ∀ q : Bool, ((q && decide (j < j)) ^^ (sel q (tp j)).getLsbD j) = (q && decide (j < j + 1)) := fun q => by
        cases q
        · simp [sel]
        · simp [sel, tp, BitVec.getLsbD_twoPow, hj]
      exact e3 _
    · have e : decide (j < n + 1) = decide (j < n) := by apply decide_eq_decide.2; omega
      have e2 : (sel (v.getLsbD n) (tp n)).getLsbD j = false := by
        cases v.getLsbD n <;> simp [sel, tp, BitVec.getLsbD_twoPow, Ne.symm h]
      rw [e, e2]; simp
/-- An element is the sum of its powers. -/
theorem of_bits (v : E) : v = xsum 128 (fun i => sel (v.getLsbD i) (tp i)) := by
  apply BitVec.eq_of_getLsbD_eq
  intro j hj
  rw [bit_xsum v 128 j hj]
  simp [hj]
/-- Two maps that go over sums are one, if they are on powers. -/
theorem lin_ext {L M : E → E} (hL : Lin L) (hM : Lin M) (h : ∀ i, i < 128 → L (tp i) = M (tp i)) (v : E) : L v = M v := by
  rw [of_bits v, hL.sum, hM.sum]
  refine xsum_congr fun i hi => ?_
  rw [hL.sel, hM.sel, h i hi]
/-- Doubled, where x^128 is ov. -/
def dbl (ov v : E) : E := (v <<< 1) ^^^ sel (v.getLsbD 127) ov
theorem lin_dbl (ov : E) : Lin (dbl ov) := (lin_shl 1).xor (lin_bit 127 ov)
def dn (ov : E) : Nat → E → E
  | 0, v => v
  | n + 1, v => dbl ov (dn ov n v)
theorem lin_dn (ov : E) (n : Nat) : Lin (dn ov n) := by
  induction n with
  | zero => exact lin_id
  | succ n ih => exact (lin_dbl ov).comp ih
theorem dn_add (ov : E) (n m : Nat) (v : E) : dn ov (n + m) v = dn ov n (dn ov m v) := by
  induction n with
  | zero => rw [Nat.zero_add]; rfl
  | succ n ih => rw [Nat.add_right_comm]; unfold dn; rw [ih]
theorem dn_one (ov : E) (i : Nat) (hi : i < 128) : dn ov i 1#128 = tp i := by
  induction i with
  | zero => rfl
  | succ i ih =>
    unfold dn
    rw [ih (by omega)]
    unfold dbl
    have e1 : (tp i).getLsbD 127 = false := by simp [tp, BitVec.getLsbD_twoPow]; omega
    rw [e1]
    apply BitVec.eq_of_getLsbD_eq
    intro j hj
    simp only [sel, tp, BitVec.getLsbD_xor, BitVec.getLsbD_shiftLeft, BitVec.getLsbD_twoPow]
    by_cases h : j = i + 1
    · subst h; simp; omega
    · have : ¬ i + 1 = j := fun e => h e.symm
      by_cases h0 : j = 0
      · subst h0; simp
      · have h2 : ¬ i = j - 1 := by omega
        simp [this, h2]
/-- A product. -/
def act (ov a b : E) : E := xsum 128 (fun i => sel (a.getLsbD i) (dn ov i b))
theorem lin_act (ov a : E) : Lin (act ov a) := fun x y => by
  unfold act
  rw [← xsum_xor]
  refine xsum_congr fun i _ => ?_
  rw [lin_dn ov i x y, sel_lin]
theorem act_add (ov a b c : E) : act ov (a ^^^ b) c = act ov a c ^^^ act ov b c := by
  unfold act
  rw [← xsum_xor]
  refine xsum_congr fun i _ => ?_
  rw [BitVec.getLsbD_xor, sel_xor]
theorem act_one (ov a : E) : act ov a 1#128 = a := by
  unfold act
  rw [xsum_congr (g := fun i => sel (a.getLsbD i) (tp i)) fun i hi => by rw [dn_one ov i hi]]
  exact (of_bits a).symm
theorem act_dbl (ov a b : E) : act ov a (dbl ov b) = dbl ov (act ov a b) := by
  unfold act
  rw [(lin_dbl ov).sum]
  refine xsum_congr fun i _ => ?_
  rw [(lin_dbl ov).sel]
  have := dn_add ov i 1 b
  rw [Nat.add_comm] at this
  rw [show dn ov i (dbl ov b) = dn ov i (dn ov 1 b) from rfl, ← this, Nat.add_comm 1 i]; rfl
theorem act_dn (ov a : E) (n : Nat) (b : E) : act ov a (dn ov n b) = dn ov n (act ov a b) := by
  induction n with
  | zero => rfl
  | succ n ih => unfold dn; rw [act_dbl, ih]
theorem act_act (ov a b c : E) : act ov a (act ov b c) = act ov b (act ov a c) := by
  rw [show act ov b c = xsum 128 (fun i => sel (b.getLsbD i) (dn ov i c)) from rfl, (lin_act ov a).sum]
  show _ = xsum 128 (fun i => sel (b.getLsbD i) (dn ov i (act ov a c)))
  refine xsum_congr fun i _ => ?_
  rw [(lin_act ov a).sel, act_dn]
theorem act_comm (ov a b : E) : act ov a b = act ov b a := by
  have h := act_act ov a b 1#128
  rw [act_one, act_one] at h
  exact h
theorem act_assoc (ov a b c : E) : act ov (act ov a b) c = act ov a (act ov b c) := by
  rw [act_comm ov (act ov a b) c, act_act, act_comm ov c b]
theorem one_act (ov a : E) : act ov 1#128 a = a := by rw [act_comm, act_one]
theorem act_zero (ov a : E) : act ov a 0#128 = 0#128 := (lin_act ov a).zero
theorem zero_act (ov a : E) : act ov 0#128 a = 0#128 := by rw [act_comm, act_zero]
/-- From the highest coefficient down. -/
def hor (ov a b : E) : Nat → E
  | 0 => 0#128
  | t + 1 => dbl ov (hor ov a b t) ^^^ sel (a.getLsbD (127 - t)) b
theorem xsum_left (n : Nat) (f : Nat → E) : xsum (n + 1) f = f 0 ^^^ xsum n (fun i => f (i + 1)) := by
  induction n with
  | zero => simp [xsum]
  | succ n ih => rw [show xsum (n + 1 + 1) f = xsum (n + 1) f ^^^ f (n + 1) from rfl, ih, BitVec.xor_assoc]; rfl
theorem hor_eq (ov a b : E) (t : Nat) (ht : t ≤ 128) : hor ov a b t = xsum t (fun i => sel (a.getLsbD (128 - t + i)) (dn ov i b)) := by
  induction t with
  | zero => rfl
  | succ t ih =>
    unfold hor
    rw [ih (by omega), (lin_dbl ov).sum, xsum_left, BitVec.xor_comm]
    congr 1
    · rw [show 128 - (t + 1) + 0 = 127 - t by omega]; rfl
    · refine xsum_congr fun i hi => ?_
      rw [(lin_dbl ov).sel, show 128 - (t + 1) + (i + 1) = 128 - t + i by omega]; rfl
theorem hor_act (ov a b : E) : hor ov a b 128 = act ov a b := by
  rw [hor_eq ov a b 128 (Nat.le_refl _)]
  unfold act
  refine xsum_congr fun i _ => ?_
  rw [Nat.sub_self, Nat.zero_add]
/-- x^128, by the lowest bit first, and by the highest. -/
def lov : E := 0xc2000000000000000000000000000001#128
def hov : E := 0x87#128
/-- Divided by x. -/
def hlf (v : E) : E := (v >>> 1) ^^^ sel (v.getLsbD 0) 0xe1000000000000000000000000000000#128
theorem lin_hlf : Lin hlf := (lin_shr 1).xor (lin_bit 0 _)
theorem dbl_hlf (v : E) : dbl lov (hlf v) = v := lin_ext ((lin_dbl lov).comp lin_hlf) lin_id (fun i hi => (by decide +kernel : ∀ i : Fin 128, dbl lov (hlf (tp i.val)) = tp i.val) ⟨i, hi⟩) v
theorem hlf_dbl (v : E) : hlf (dbl lov v) = v := lin_ext (lin_hlf.comp (lin_dbl lov)) lin_id (fun i hi => (by decide +kernel : ∀ i : Fin 128, hlf (dbl lov (tp i.val)) = tp i.val) ⟨i, hi⟩) v
def hn : Nat → E → E
  | 0, v => v
  | n + 1, v => hlf (hn n v)
theorem lin_hn (n : Nat) : Lin (hn n) := by
  induction n with
  | zero => exact lin_id
  | succ n ih => exact lin_hlf.comp ih
theorem hn_add (n m : Nat) (v : E) : hn (n + m) v = hn n (hn m v) := by
  induction n with
  | zero => rw [Nat.zero_add]; rfl
  | succ n ih => rw [Nat.add_right_comm]; unfold hn; rw [ih]
theorem hn_dn (n : Nat) (v : E) : hn n (dn lov n v) = v := by
  induction n generalizing v with
  | zero => rfl
  | succ n ih =>
    rw [hn_add n 1, Nat.add_comm n 1, dn_add lov 1 n]
    show hn n (hlf (dbl lov (dn lov n v))) = v
    rw [hlf_dbl, ih]
theorem dn_hn (n : Nat) (v : E) : dn lov n (hn n v) = v := by
  induction n generalizing v with
  | zero => rfl
  | succ n ih =>
    rw [dn_add lov n 1, Nat.add_comm n 1, hn_add 1 n]
    show dn lov n (dbl lov (hlf (hn n v))) = v
    rw [dbl_hlf, ih]
theorem act_hlf (a b : E) : act lov a (hlf b) = hlf (act lov a b) := by
  have : dbl lov (act lov a (hlf b)) = act lov a b := by rw [← act_dbl, dbl_hlf]
  rw [← this, hlf_dbl]
theorem act_hn (a : E) (n : Nat) (b : E) : act lov a (hn n b) = hn n (act lov a b) := by
  induction n with
  | zero => rfl
  | succ n ih => unfold hn; rw [act_hlf, ih]
theorem lov_dn : dn lov 128 1#128 = lov := by decide +kernel
theorem act_lov (v : E) : act lov v lov = dn lov 128 v := by
  have h := act_dn lov v 128 1#128
  rw [act_one, lov_dn] at h
  exact h
/-- The dot. -/
def dot (a b : E) : E := hn 128 (act lov a b)
theorem dot_comm (a b : E) : dot a b = dot b a := by unfold dot; rw [act_comm]
theorem dot_assoc (a b c : E) : dot (dot a b) c = dot a (dot b c) := by
  unfold dot
  rw [act_comm lov _ c, act_hn, act_hn, act_act, act_comm lov c b]
theorem dot_add (a b c : E) : dot (a ^^^ b) c = dot a c ^^^ dot b c := by unfold dot; rw [act_add, lin_hn 128]
theorem dot_up (a : E) : dot a lov = a := by
  unfold dot
  rw [act_lov, hn_dn]
theorem act_dot_up (a b : E) : act lov (dot a b) lov = act lov a b := by
  unfold dot
  rw [act_lov, dn_hn]
/-! an element in two words -/
def lo (v : E) : BitVec 64 := v.setWidth 64
def hi (v : E) : BitVec 64 := (v >>> 64).setWidth 64
def mkE (l h : BitVec 64) : E := (h.setWidth 128 <<< 64) ^^^ l.setWidth 128
theorem bit_lo (v : E) (i : Nat) (h : i < 64) : (lo v).getLsbD i = v.getLsbD i := by simp [lo, h]
theorem bit_hi (v : E) (i : Nat) (h : i < 64) : (hi v).getLsbD i = v.getLsbD (64 + i) := by simp [hi, h]
theorem bit_mk (l h : BitVec 64) (i : Nat) (hi : i < 128) : (mkE l h).getLsbD i = if i < 64 then l.getLsbD i else h.getLsbD (i - 64) := by
  unfold mkE
  simp only [BitVec.getLsbD_xor, BitVec.getLsbD_shiftLeft, BitVec.getLsbD_setWidth]
  by_cases h1 : i < 64
  · simp [h1, hi]
  · have : l.getLsbD i = false := BitVec.getLsbD_of_ge _ _ (by omega)
    simp [h1, hi, this]; omega
theorem lo_mk (l h : BitVec 64) : lo (mkE l h) = l := by
  apply BitVec.eq_of_getLsbD_eq
  intro i hi
  rw [bit_lo _ _ hi, bit_mk _ _ _ (by omega), if_pos hi]
theorem hi_mk (l h : BitVec 64) : hi (mkE l h) = h := by
  apply BitVec.eq_of_getLsbD_eq
  intro i hi
  rw [bit_hi _ _ hi, bit_mk _ _ _ (by omega), if_neg (by omega), Nat.add_sub_cancel_left]
theorem mk_lo_hi (v : E) : mkE (lo v) (hi v) = v := by
  apply BitVec.eq_of_getLsbD_eq
  intro i hi
  rw [bit_mk _ _ _ hi]
  split
  · rename_i h; rw [bit_lo _ _ h]
  · rw [bit_hi _ _ (by omega)]; congr 1; omega
theorem lo_xor (a b : E) : lo (a ^^^ b) = lo a ^^^ lo b := by unfold lo; exact BitVec.setWidth_xor
theorem hi_xor (a b : E) : hi (a ^^^ b) = hi a ^^^ hi b := by unfold hi; rw [BitVec.ushiftRight_xor_distrib]; exact BitVec.setWidth_xor
theorem mk_xor (a b c d : BitVec 64) : mkE (a ^^^ b) (c ^^^ d) = mkE a c ^^^ mkE b d := by
  have h := mk_lo_hi (mkE a c ^^^ mkE b d)
  rw [lo_xor, hi_xor, lo_mk, lo_mk, hi_mk, hi_mk] at h
  exact h
def B (x : BitVec 64) : Int := ((x.toNat : Nat) : Int)
theorem r64_B (x : BitVec 64) : R64 (B x) := by unfold R64 B; have := x.isLt; omega
theorem ofB (x : BitVec 64) : BitVec.ofInt 64 (B x) = x := by unfold B; rw [BitVec.ofInt_natCast]; simp
theorem wrB (x : BitVec 64) : IntKind.u64.wrap ((x.toNat : Nat) : Int) = B x := by unfold B; rw [wrap_u64]; have := x.isLt; omega
theorem B_of (x : Int) (h : R64 x) : B (BitVec.ofInt 64 x) = x := by unfold B; rw [bv64 x h]; unfold R64 at h; omega
theorem shlB (x : BitVec 64) (k c : Nat) (hc : c = 2 ^ k) : IntKind.u64.wrap (B x * (c : Int)) = B (x <<< k) := by
  subst hc
  unfold B
  rw [wrap_u64, BitVec.toNat_shiftLeft, Nat.shiftLeft_eq]
  have : ((x.toNat * 2 ^ k : Nat) : Int) = (x.toNat : Int) * ((2 ^ k : Nat) : Int) := by simp
  rw [← this]; omega
theorem shrB (x : BitVec 64) (k c : Nat) (hc : c = 2 ^ k) : (B x).fdiv (c : Int) = B (x >>> k) := by
  subst hc
  unfold B
  rw [BitVec.toNat_ushiftRight, Nat.shiftRight_eq_div_pow, Int.fdiv_eq_ediv_of_nonneg _ (Int.natCast_nonneg _)]
  simp
def byt (v : E) (j : Nat) : Int := if j < 8 then putw (B (lo v)) j else putw (B (hi v)) (j - 8)
theorem r8_byt (v : E) (j : Nat) : R8 (byt v j) := by unfold byt; split <;> exact r8_putw _ _
def el (a : Nat → Int) : E := mkE (BitVec.ofInt 64 (long8 (a 0) (a 1) (a 2) (a 3) (a 4) (a 5) (a 6) (a 7))) (BitVec.ofInt 64 (long8 (a 8) (a 9) (a 10) (a 11) (a 12) (a 13) (a 14) (a 15)))
theorem el_byt (v : E) : el (byt v) = v := by
  unfold el
  show mkE (BitVec.ofInt 64 (long8 (putw (B (lo v)) 0) (putw (B (lo v)) 1) (putw (B (lo v)) 2) (putw (B (lo v)) 3) (putw (B (lo v)) 4) (putw (B (lo v)) 5) (putw (B (lo v)) 6) (putw (B (lo v)) 7))) (BitVec.ofInt 64 (long8 (putw (B (hi v)) 0) (putw (B (hi v)) 1) (putw (B (hi v)) 2) (putw (B (hi v)) 3) (putw (B (hi v)) 4) (putw (B (hi v)) 5) (putw (B (hi v)) 6) (putw (B (hi v)) 7))) = v
  rw [long8_putw _ (r64_B _), long8_putw _ (r64_B _), ofB, ofB, mk_lo_hi]
theorem long_byte (a b c d e f g h : Int) (ha : R8 a) (hb : R8 b) (hc : R8 c) (hd : R8 d) (he : R8 e) (hf : R8 f) (hg : R8 g) (hh : R8 h) (j : Nat) (hj : j < 8) : putw (long8 a b c d e f g h) j = arf [a, b, c, d, e, f, g, h] j := by
  rw [long8_eq a b c d e f g h ha hb hc hd he hf hg hh, putw_eq]
  unfold R8 at ha hb hc hd he hf hg hh
  rcases (by omega : j = 0 ∨ j = 1 ∨ j = 2 ∨ j = 3 ∨ j = 4 ∨ j = 5 ∨ j = 6 ∨ j = 7) with rfl | rfl | rfl | rfl | rfl | rfl | rfl | rfl
  · show _ / (1 : Int) % 256 = a; omega
  · show _ / (256 : Int) % 256 = b; omega
  · show _ / (65536 : Int) % 256 = c; omega
  · show _ / (16777216 : Int) % 256 = d; omega
  · show _ / (4294967296 : Int) % 256 = e; omega
  · show _ / (1099511627776 : Int) % 256 = f; omega
  · show _ / (281474976710656 : Int) % 256 = g; omega
  · show _ / (72057594037927936 : Int) % 256 = h; omega
theorem byt_el (a : Nat → Int) (h : ∀ j, j < 16 → R8 (a j)) (j : Nat) (hj : j < 16) : byt (el a) j = a j := by
  unfold byt el
  rw [lo_mk, hi_mk, B_of _ (r64_long8 _ _ _ _ _ _ _ _), B_of _ (r64_long8 _ _ _ _ _ _ _ _)]
  have h0 := h 0 (by decide); have h1 := h 1 (by decide); have h2 := h 2 (by decide); have h3 := h 3 (by decide); have h4 := h 4 (by decide); have h5 := h 5 (by decide); have h6 := h 6 (by decide); have h7 := h 7 (by decide)
  have h8 := h 8 (by decide); have h9 := h 9 (by decide); have h10 := h 10 (by decide); have h11 := h 11 (by decide); have h12 := h 12 (by decide); have h13 := h 13 (by decide); have h14 := h 14 (by decide); have h15 := h 15 (by decide)
  by_cases hl : j < 8
  · rw [if_pos hl, long_byte _ _ _ _ _ _ _ _ h0 h1 h2 h3 h4 h5 h6 h7 j hl]
    rcases (by omega : j = 0 ∨ j = 1 ∨ j = 2 ∨ j = 3 ∨ j = 4 ∨ j = 5 ∨ j = 6 ∨ j = 7) with rfl | rfl | rfl | rfl | rfl | rfl | rfl | rfl <;> rfl
  · rw [if_neg hl, long_byte _ _ _ _ _ _ _ _ h8 h9 h10 h11 h12 h13 h14 h15 (j - 8) (by omega)]
    obtain ⟨q, rfl⟩ : ∃ q, j = 8 + q := ⟨j - 8, by omega⟩
    rw [Nat.add_sub_cancel_left]
    have hq : q < 8 := by omega
    rcases (by omega : q = 0 ∨ q = 1 ∨ q = 2 ∨ q = 3 ∨ q = 4 ∨ q = 5 ∨ q = 6 ∨ q = 7) with rfl | rfl | rfl | rfl | rfl | rfl | rfl | rfl <;> rfl
theorem ar8_el (a : Nat → Int) (h : ∀ j, j < 16 → R8 (a j)) : ar8 16 a = ar8 16 (byt (el a)) := ar8_congr fun j hj => (byt_el a h j hj).symm
theorem byt_inj {u v : E} (h : ∀ j, j < 16 → byt u j = byt v j) : u = v := by
  rw [← el_byt u, ← el_byt v]
  unfold el
  rw [h 0 (by decide), h 1 (by decide), h 2 (by decide), h 3 (by decide), h 4 (by decide), h 5 (by decide), h 6 (by decide), h 7 (by decide), h 8 (by decide), h 9 (by decide), h 10 (by decide), h 11 (by decide), h 12 (by decide), h 13 (by decide), h 14 (by decide), h 15 (by decide)]
theorem eq_byt (u v : E) : eqL [byt u 0, byt u 1, byt u 2, byt u 3, byt u 4, byt u 5, byt u 6, byt u 7, byt u 8, byt u 9, byt u 10, byt u 11, byt u 12, byt u 13, byt u 14, byt u 15] [byt v 0, byt v 1, byt v 2, byt v 3, byt v 4, byt v 5, byt v 6, byt v 7, byt v 8, byt v 9, byt v 10, byt v 11, byt v 12, byt v 13, byt v 14, byt v 15] = decide (u = v) := by
  by_cases h : u = v
  · subst h; rw [eqL_iff.2 rfl]; simp
  · rw [decide_eq_false h]
    cases hb : eqL [byt u 0, byt u 1, byt u 2, byt u 3, byt u 4, byt u 5, byt u 6, byt u 7, byt u 8, byt u 9, byt u 10, byt u 11, byt u 12, byt u 13, byt u 14, byt u 15] [byt v 0, byt v 1, byt v 2, byt v 3, byt v 4, byt v 5, byt v 6, byt v 7, byt v 8, byt v 9, byt v 10, byt v 11, byt v 12, byt v 13, byt v 14, byt v 15] with
    | false => rfl
    | true =>
      exfalso
      have h2 := eqL_iff.1 hb
      injection h2 with a0 h2; injection h2 with a1 h2; injection h2 with a2 h2; injection h2 with a3 h2; injection h2 with a4 h2; injection h2 with a5 h2; injection h2 with a6 h2; injection h2 with a7 h2; injection h2 with a8 h2; injection h2 with a9 h2; injection h2 with a10 h2; injection h2 with a11 h2; injection h2 with a12 h2; injection h2 with a13 h2; injection h2 with a14 h2; injection h2 with a15 h2
      refine h (byt_inj fun j hj => ?_)
      rcases (by omega : j = 0 ∨ j = 1 ∨ j = 2 ∨ j = 3 ∨ j = 4 ∨ j = 5 ∨ j = 6 ∨ j = 7 ∨ j = 8 ∨ j = 9 ∨ j = 10 ∨ j = 11 ∨ j = 12 ∨ j = 13 ∨ j = 14 ∨ j = 15) with rfl | rfl | rfl | rfl | rfl | rfl | rfl | rfl | rfl | rfl | rfl | rfl | rfl | rfl | rfl | rfl <;> assumption
end Go.Proofs.YtdfbcdgneboilaaDoor.Ab
