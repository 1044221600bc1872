/- Own: rounds of blocks, plain mathematics (no Go here, no statement is proved here). -/
import Derived.Test.YtlkihbmkekadeaaDoorTab
namespace Go.Proofs.YtlkihbmkekadeaaDoor

def Byt (f : Nat → Nat) : Prop := ∀ i, f i < 256
def mixM (i r : Nat) : Nat := ([2, 3, 1, 1, 1, 2, 3, 1, 1, 1, 2, 3, 3, 1, 1, 2] : List Nat).getD (4 * i + r) 0
def unM (i r : Nat) : Nat := ([14, 11, 13, 9, 9, 14, 11, 13, 13, 9, 14, 11, 11, 13, 9, 14] : List Nat).getD (4 * i + r) 0
theorem mixM_lt (i r : Nat) (hi : i < 4) (hr : r < 4) : mixM i r < 256 := (show ∀ i, i < 4 → ∀ r, r < 4 → mixM i r < 256 by decide) i hi r hr
theorem unM_lt (i r : Nat) (hi : i < 4) (hr : r < 4) : unM i r < 256 := (show ∀ i, i < 4 → ∀ r, r < 4 → unM i r < 256 by decide) i hi r hr
theorem mixM_ne (i r : Nat) (hi : i < 4) (hr : r < 4) : mixM i r ≠ 0 := (show ∀ i, i < 4 → ∀ r, r < 4 → mixM i r ≠ 0 by decide) i hi r hr

/-- A column times a matrix, one row of it. -/
def mcol (M : Nat → Nat → Nat) (a : Nat → Nat) (i : Nat) : Nat := ((times (M i 0) (a 0) ^^^ times (M i 1) (a 1)) ^^^ times (M i 2) (a 2)) ^^^ times (M i 3) (a 3)
theorem mcol_congr (M : Nat → Nat → Nat) {a b : Nat → Nat} (i : Nat) (h : ∀ r, r < 4 → a r = b r) : mcol M a i = mcol M b i := by
  unfold mcol; rw [h 0 (by decide), h 1 (by decide), h 2 (by decide), h 3 (by decide)]
theorem mcol_lt (M : Nat → Nat → Nat) (a : Nat → Nat) (i : Nat) (h : ∀ r, r < 4 → M i r < 256) : mcol M a i < 256 := by
  unfold mcol
  exact xor_lt _ _ (xor_lt _ _ (xor_lt _ _ (times_lt _ _ (h 0 (by decide))) (times_lt _ _ (h 1 (by decide)))) (times_lt _ _ (h 2 (by decide)))) (times_lt _ _ (h 3 (by decide)))
def comp (U M : Nat → Nat → Nat) (i k : Nat) : Nat := ((times (U i 0) (M 0 k) ^^^ times (U i 1) (M 1 k)) ^^^ times (U i 2) (M 2 k)) ^^^ times (U i 3) (M 3 k)
theorem comp_times (U M : Nat → Nat → Nat) (i k x : Nat) (hU : ∀ r, r < 4 → U i r < 256) (hM : ∀ r, r < 4 → M r k < 256) (hx : x < 256) :
    times (comp U M i k) x = ((times (U i 0) (times (M 0 k) x) ^^^ times (U i 1) (times (M 1 k) x)) ^^^ times (U i 2) (times (M 2 k) x)) ^^^ times (U i 3) (times (M 3 k) x) := by
  have t : ∀ r, r < 4 → times (U i r) (M r k) < 256 := fun r hr => times_lt _ _ (hU r hr)
  unfold comp
  rw [times_left _ _ _ (xor_lt _ _ (xor_lt _ _ (t 0 (by decide)) (t 1 (by decide))) (t 2 (by decide))) (t 3 (by decide)), times_left _ _ _ (xor_lt _ _ (t 0 (by decide)) (t 1 (by decide))) (t 2 (by decide)), times_left _ _ _ (t 0 (by decide)) (t 1 (by decide)),
    times_assoc _ _ _ (hU 0 (by decide)) (hM 0 (by decide)) hx, times_assoc _ _ _ (hU 1 (by decide)) (hM 1 (by decide)) hx, times_assoc _ _ _ (hU 2 (by decide)) (hM 2 (by decide)) hx, times_assoc _ _ _ (hU 3 (by decide)) (hM 3 (by decide)) hx]
theorem mcol_mcol (U M : Nat → Nat → Nat) (a : Nat → Nat) (i : Nat) (hU : ∀ r, r < 4 → U i r < 256) (hM : ∀ r k, r < 4 → k < 4 → M r k < 256) (ha : ∀ k, k < 4 → a k < 256) :
    mcol U (mcol M a) i = mcol (comp U M) a i := by
  have c := fun k hk => comp_times U M i k (a k) hU (fun r hr => hM r k hr hk) (ha k hk)
  have l : mcol (comp U M) a i = ((times (comp U M i 0) (a 0) ^^^ times (comp U M i 1) (a 1)) ^^^ times (comp U M i 2) (a 2)) ^^^ times (comp U M i 3) (a 3) := rfl
  rw [l, c 0 (by decide), c 1 (by decide), c 2 (by decide), c 3 (by decide)]
  simp only [mcol, times_right]
  ac_rfl
theorem comp_um : ∀ i, i < 4 → ∀ k, k < 4 → comp unM mixM i k = if i = k then 1 else 0 := by decide +kernel
theorem comp_mu : ∀ i, i < 4 → ∀ k, k < 4 → comp mixM unM i k = if i = k then 1 else 0 := by decide +kernel
theorem mcol_one (M : Nat → Nat → Nat) (a : Nat → Nat) (i : Nat) (hi : i < 4) (h : ∀ k, k < 4 → M i k = if i = k then 1 else 0) (ha : ∀ k, k < 4 → a k < 256) : mcol M a i = a i := by
  unfold mcol
  rw [h 0 (by decide), h 1 (by decide), h 2 (by decide), h 3 (by decide)]
  have z := zero_times
  have o := fun k hk => one_times (a k) (ha k hk)
  match i, hi with
  | 0, _ => simp [z, o 0 (by decide)]
  | 1, _ => simp [z, o 1 (by decide)]
  | 2, _ => simp [z, o 2 (by decide)]
  | 3, _ => simp [z, o 3 (by decide)]
theorem un_mix (a : Nat → Nat) (i : Nat) (hi : i < 4) (ha : ∀ k, k < 4 → a k < 256) : mcol unM (mcol mixM a) i = a i := by
  rw [mcol_mcol unM mixM a i (fun r hr => unM_lt i r hi hr) (fun r k hr hk => mixM_lt r k hr hk) ha]
  exact mcol_one _ a i hi (fun k hk => comp_um i hi k hk) ha
theorem mix_un (a : Nat → Nat) (i : Nat) (hi : i < 4) (ha : ∀ k, k < 4 → a k < 256) : mcol mixM (mcol unM a) i = a i := by
  rw [mcol_mcol mixM unM a i (fun r hr => mixM_lt i r hi hr) (fun r k hr hk => unM_lt r k hr hk) ha]
  exact mcol_one _ a i hi (fun k hk => comp_mu i hi k hk) ha

/-! Places. -/
def shf (c r : Nat) : Nat := 4 * ((c + r) % 4) + r
def shi (i : Nat) : Nat := shf (i / 4) (i % 4)
def shb (i : Nat) : Nat := 4 * ((i / 4 + 4 - i % 4) % 4) + i % 4
theorem shi_shb (i : Nat) (h : i < 16) : shi (shb i) = i := (show ∀ i, i < 16 → shi (shb i) = i by decide) i h
theorem shb_shi (i : Nat) (h : i < 16) : shb (shi i) = i := (show ∀ i, i < 16 → shb (shi i) = i by decide) i h
theorem shi_lt (i : Nat) (h : i < 16) : shi i < 16 := (show ∀ i, i < 16 → shi i < 16 by decide) i h
theorem shb_lt (i : Nat) (h : i < 16) : shb i < 16 := (show ∀ i, i < 16 → shb i < 16 by decide) i h
theorem shf_lt (c r : Nat) (hc : c < 4) (hr : r < 4) : shf c r < 16 := (show ∀ c, c < 4 → ∀ r, r < 4 → shf c r < 16 by decide) c hc r hr
theorem shb_shf (c r : Nat) (hc : c < 4) (hr : r < 4) : shb (shf c r) = 4 * c + r := (show ∀ c, c < 4 → ∀ r, r < 4 → shb (shf c r) = 4 * c + r by decide) c hc r hr
theorem quad (c r : Nat) (hr : r < 4) : (4 * c + r) / 4 = c ∧ (4 * c + r) % 4 = r := by omega

/-! Rounds. -/
def rnd (f k : Nat → Nat) (i : Nat) : Nat := mcol mixM (fun r => sbox (f (shf (i / 4) r))) (i % 4) ^^^ k i
def lst (f k : Nat → Nat) (i : Nat) : Nat := sbox (f (shi i)) ^^^ k i
def unl (f k : Nat → Nat) (i : Nat) : Nat := isb (f (shb i) ^^^ k (shb i))
def umx (f k : Nat → Nat) (i : Nat) : Nat := mcol unM (fun r => f (4 * (i / 4) + r) ^^^ k (4 * (i / 4) + r)) (i % 4)
def unr (f k : Nat → Nat) : Nat → Nat := unl (umx f k) fun _ => 0
theorem xor_twice (a b : Nat) : (a ^^^ b) ^^^ b = a := by rw [Nat.xor_assoc, Nat.xor_self, Nat.xor_zero]
theorem isb_lt (b : Nat) (h : b < 256) : isb b < 256 := (sbox_isb b h).2
theorem rnd_byt {f k : Nat → Nat} (hk : Byt k) : Byt (rnd f k) := fun i => xor_lt _ _ (mcol_lt _ _ _ fun r hr => mixM_lt _ r (Nat.mod_lt _ (by decide)) hr) (hk i)
theorem lst_byt {f k : Nat → Nat} (hf : Byt f) (hk : Byt k) : Byt (lst f k) := fun i => xor_lt _ _ (sbox_lt _ (hf _)) (hk i)
theorem unl_byt {f k : Nat → Nat} (hf : Byt f) (hk : Byt k) : Byt (unl f k) := fun _ => isb_lt _ (xor_lt _ _ (hf _) (hk _))
theorem umx_byt (f k : Nat → Nat) : Byt (umx f k) := fun _ => mcol_lt _ _ _ fun r hr => unM_lt _ r (Nat.mod_lt _ (by decide)) hr
theorem zero_byt : Byt fun _ => 0 := fun _ => Nat.zero_lt_succ _
theorem unr_byt (f k : Nat → Nat) : Byt (unr f k) := unl_byt (umx_byt f k) zero_byt
theorem unl_lst {f k : Nat → Nat} (hf : Byt f) (i : Nat) (hi : i < 16) : unl (lst f k) k i = f i := by
  unfold unl lst; rw [xor_twice, shi_shb i hi, isb_sbox _ (hf i)]
theorem lst_unl {f k : Nat → Nat} (hf : Byt f) (hk : Byt k) (i : Nat) (hi : i < 16) : lst (unl f k) k i = f i := by
  unfold unl lst; rw [(sbox_isb _ (xor_lt _ _ (hf _) (hk _))).1, shb_shi i hi, xor_twice]
theorem unr_rnd {f k : Nat → Nat} (hf : Byt f) (i : Nat) (hi : i < 16) : unr (rnd f k) k i = f i := by
  have e : umx (rnd f k) k (shb i) = sbox (f i) := by
    unfold umx
    rw [mcol_congr unM (b := mcol mixM fun r => sbox (f (shf (shb i / 4) r))) _ fun r hr => by
      obtain ⟨e1, e2⟩ := quad (shb i / 4) r hr
      show (rnd f k) _ ^^^ _ = _
      unfold rnd
      rw [e1, e2, xor_twice]]
    rw [un_mix _ _ (Nat.mod_lt _ (by decide)) fun k _ => sbox_lt _ (hf _)]
    show sbox (f (shi (shb i))) = _
    rw [shi_shb i hi]
  unfold unr unl
  rw [e, Nat.xor_zero, isb_sbox _ (hf i)]
theorem rnd_unr {f k : Nat → Nat} (hf : Byt f) (hk : Byt k) (i : Nat) (hi : i < 16) : rnd (unr f k) k i = f i := by
  have hc : i / 4 < 4 := by omega
  have hr : i % 4 < 4 := Nat.mod_lt _ (by decide)
  have ei : 4 * (i / 4) + i % 4 = i := by omega
  unfold rnd
  rw [mcol_congr mixM (b := mcol unM fun r => f (4 * (i / 4) + r) ^^^ k (4 * (i / 4) + r)) _ fun r hr => by
    obtain ⟨e1, e2⟩ := quad (i / 4) r hr
    show sbox (unr f k (shf (i / 4) r)) = _
    unfold unr unl
    rw [Nat.xor_zero, (sbox_isb _ (umx_byt f k _)).1, shb_shf _ _ hc hr]
    unfold umx
    rw [e1, e2]]
  rw [mix_un _ _ hr fun r _ => xor_lt _ _ (hf _) (hk _), ei, xor_twice]
theorem rnd_congr {f g k l : Nat → Nat} (h : ∀ i, i < 16 → f i = g i) (h' : ∀ i, i < 16 → k i = l i) (i : Nat) (hi : i < 16) : rnd f k i = rnd g l i := by
  unfold rnd
  rw [h' i hi, mcol_congr mixM (b := fun r => sbox (g (shf (i / 4) r))) _ fun r hr => by rw [h _ (shf_lt _ _ (by omega) hr)]]
theorem lst_congr {f g k l : Nat → Nat} (h : ∀ i, i < 16 → f i = g i) (h' : ∀ i, i < 16 → k i = l i) (i : Nat) (hi : i < 16) : lst f k i = lst g l i := by
  unfold lst; rw [h' i hi, h _ (shi_lt i hi)]
theorem unl_congr {f g k l : Nat → Nat} (h : ∀ i, i < 16 → f i = g i) (h' : ∀ i, i < 16 → k i = l i) (i : Nat) (hi : i < 16) : unl f k i = unl g l i := by
  unfold unl; rw [h' _ (shb_lt i hi), h _ (shb_lt i hi)]
theorem umx_congr {f g k l : Nat → Nat} (h : ∀ i, i < 16 → f i = g i) (h' : ∀ i, i < 16 → k i = l i) (i : Nat) (hi : i < 16) : umx f k i = umx g l i := by
  unfold umx
  exact mcol_congr unM _ fun r hr => by rw [h _ (by omega), h' _ (by omega)]
theorem unr_congr {f g k l : Nat → Nat} (h : ∀ i, i < 16 → f i = g i) (h' : ∀ i, i < 16 → k i = l i) (i : Nat) (hi : i < 16) : unr f k i = unr g l i :=
  unl_congr (umx_congr h h') (fun _ _ => rfl) i hi

/-! Four bytes as a number. -/
def wd (x : Nat → Nat) : Nat := x 0 + x 1 * 256 + x 2 * 65536 + x 3 * 16777216
theorem wd_lt {x : Nat → Nat} (h : ∀ i, i < 4 → x i < 256) : wd x < 4294967296 := by
  have h0 := h 0 (by decide); have h1 := h 1 (by decide); have h2 := h 2 (by decide); have h3 := h 3 (by decide)
  unfold wd; omega
theorem wd_byte {x : Nat → Nat} (h : ∀ i, i < 4 → x i < 256) (i : Nat) (hi : i < 4) : wd x / 256 ^ i % 256 = x i := by
  have h0 := h 0 (by decide); have h1 := h 1 (by decide); have h2 := h 2 (by decide); have h3 := h 3 (by decide)
  unfold wd
  match i, hi with
  | 0, _ => simp; omega
  | 1, _ => simp; omega
  | 2, _ => simp; omega
  | 3, _ => simp; omega
theorem byte_xor (a b i : Nat) : (a ^^^ b) / 256 ^ i % 256 = (a / 256 ^ i % 256) ^^^ (b / 256 ^ i % 256) := by
  have e : (256 : Nat) ^ i = 2 ^ (8 * i) := by rw [Nat.pow_mul]
  rw [e, ← Nat.shiftRight_eq_div_pow, ← Nat.shiftRight_eq_div_pow, ← Nat.shiftRight_eq_div_pow, Nat.shiftRight_xor_distrib]
  exact Nat.xor_mod_two_pow (n := 8)
/-- Numbers, added up by exclusive or. -/
def colx (m : Nat → Nat) : Nat → Nat
  | 0 => 0
  | k + 1 => colx m k ^^^ m k
theorem colx_lt (m : Nat → Nat) (k : Nat) (h : ∀ r, r < k → m r < 4294967296) : colx m k < 4294967296 := by
  induction k with
  | zero => exact Nat.zero_lt_succ _
  | succ k ih => exact Nat.xor_lt_two_pow (n := 32) (ih fun r hr => h r (by omega)) (h k (by omega))
/-- What a table has of a byte that counts as x: the column's numbers. -/
def tw (M : Nat → Nat → Nat) (r x : Nat) : Nat := wd fun i => times (M i r) x
theorem tw_lt (M : Nat → Nat → Nat) (r x : Nat) (h : ∀ i, i < 4 → M i r < 256) : tw M r x < 4294967296 := wd_lt fun i hi => times_lt _ _ (h i hi)
theorem colx_byte (m : Nat → Nat) (i : Nat) : colx m 4 / 256 ^ i % 256 = (((m 0 / 256 ^ i % 256) ^^^ (m 1 / 256 ^ i % 256)) ^^^ (m 2 / 256 ^ i % 256)) ^^^ (m 3 / 256 ^ i % 256) := by
  have e : colx m 4 = (((0 ^^^ m 0) ^^^ m 1) ^^^ m 2) ^^^ m 3 := rfl
  rw [e, Nat.zero_xor, byte_xor, byte_xor, byte_xor]
theorem tw_byte (M : Nat → Nat → Nat) (r x : Nat) (h : ∀ i, i < 4 → M i r < 256) (i : Nat) (hi : i < 4) : tw M r x / 256 ^ i % 256 = times (M i r) x :=
  wd_byte (x := fun i => times (M i r) x) (fun i hi => times_lt _ _ (h i hi)) i hi
theorem four_eq {x0 x1 x2 x3 y0 y1 y2 y3 : Nat} (h0 : x0 = y0) (h1 : x1 = y1) (h2 : x2 = y2) (h3 : x3 = y3) : ((x0 ^^^ x1) ^^^ x2) ^^^ x3 = ((y0 ^^^ y1) ^^^ y2) ^^^ y3 := by rw [h0, h1, h2, h3]
theorem col_byte (M : Nat → Nat → Nat) (a : Nat → Nat) (hM : ∀ i r, i < 4 → r < 4 → M i r < 256) (i : Nat) (hi : i < 4) : colx (fun r => tw M r (a r)) 4 / 256 ^ i % 256 = mcol M a i :=
  (colx_byte (fun r => tw M r (a r)) i).trans (four_eq (tw_byte M 0 (a 0) (fun i hi => hM i 0 hi (by decide)) i hi) (tw_byte M 1 (a 1) (fun i hi => hM i 1 hi (by decide)) i hi) (tw_byte M 2 (a 2) (fun i hi => hM i 2 hi (by decide)) i hi) (tw_byte M 3 (a 3) (fun i hi => hM i 3 hi (by decide)) i hi))
end Go.Proofs.YtlkihbmkekadeaaDoor
