/- Own: a key's words as bytes; parts of rows, stored and read (no statement is proved here). -/
import Derived.Test.YtlkihbmkekadeaaDoorAChanged
namespace Go.Proofs.YtlkihbmkekadeaaDoor
open Go.ChangeShapes Go.WideShapes Go.ChangeAt Go.RowKit
set_option maxRecDepth 20000

/-- What a word takes from the one ahead of it. -/
def chg (x : Nat → Nat) (i n : Nat) : Nat → Nat :=
  if i % n = 0 then fun r => match r with | 0 => sbox (x 1) ^^^ pw 2 (i / n - 1) | 1 => sbox (x 2) | 2 => sbox (x 3) | _ => sbox (x 0)
  else if n = 8 ∧ i % 8 = 4 then fun r => sbox (x r) else x
theorem chg_byt {x : Nat → Nat} (hx : Byt x) (i n : Nat) : Byt (chg x i n) := by
  unfold chg
  split
  · intro r
    match r with
    | 0 => exact xor_lt _ _ (sbox_lt _ (hx 1)) (pw_lt 2 (by decide) _)
    | 1 => exact sbox_lt _ (hx 2)
    | 2 => exact sbox_lt _ (hx 3)
    | _ + 3 => exact sbox_lt _ (hx 0)
  · split
    · exact fun r => sbox_lt _ (hx r)
    · exact hx
theorem changed_any (g : Nat) (x : Nat → Nat) (hx : Byt x) (i n : Nat) (hn : n = 4 ∨ n = 6 ∨ n = 8) (hi : n ≤ i) (hi2 : i < 60) (w : World) (ht : IsTab w g) :
    Calls Tryd.prog 59 #[.pointer (some ⟨g, 0, none⟩), .agg (bc 4 x).toArray, .int .i64 (i : Nat), .int .i64 (n : Nat)] w fun e w' => e = .returned (.agg (bc 4 (chg x i n)).toArray) ∧ Below w.heap.size w w' := by
  have first : i % n = 0 → ∀ k, k + 1 = i / n → bc 4 (chg x i n) = bc 4 fun r => match r with | 0 => sbox (x 1) ^^^ pw 2 k | 1 => sbox (x 2) | 2 => sbox (x 3) | _ => sbox (x 0) := fun h k hk => by
    unfold chg; rw [if_pos h, show i / n - 1 = k by omega]
  have bx := fun w' (hb : Below w.heap.size w w') => boxed_any g (x 1) (x 2) (x 3) (x 0) (hx 1) (hx 2) (hx 3) (hx 0) w' (ht.later hb)
  have by' := fun w' (hb : Below w.heap.size w w') => boxed_any g (x 0) (x 1) (x 2) (x 3) (hx 0) (hx 1) (hx 2) (hx 3) w' (ht.later hb)
  by_cases h : i % n = 0
  · obtain ⟨k, hk⟩ : ∃ k, k + 1 = i / n := ⟨i / n - 1, by have : 1 ≤ i / n := (Nat.le_div_iff_mul_le (by omega)).2 (by omega); omega⟩
    rw [first h k hk]
    have kp := fun w' => power_any 2 k (by decide) (by have : i / n ≤ i := Nat.div_le_self _ _; omega) w'
    have xo := xor_u8 (sbox (x 1)) (pw 2 k) (sbox_lt _ (hx 1)) (pw_lt 2 (by decide) k)
    rcases hn with rfl | rfl | rfl
    · exact changed_first4 _ (x 0) (x 1) (x 2) (x 3) _ _ _ _ _ _ i k w h hk hi2 xo bx kp
    · exact changed_first6 _ (x 0) (x 1) (x 2) (x 3) _ _ _ _ _ _ i k w h hk hi2 xo bx kp
    · exact changed_first8 _ (x 0) (x 1) (x 2) (x 3) _ _ _ _ _ _ i k w h hk hi2 xo bx kp
  · rcases hn with rfl | rfl | rfl
    · have e : chg x i 4 = x := by unfold chg; rw [if_neg h, if_neg (by omega)]
      rw [e]; exact changed_same4 _ (x 0) (x 1) (x 2) (x 3) i w h hi2
    · have e : chg x i 6 = x := by unfold chg; rw [if_neg h, if_neg (by omega)]
      rw [e]; exact changed_same6 _ (x 0) (x 1) (x 2) (x 3) i w h hi2
    · by_cases h4 : i % 8 = 4
      · have e : chg x i 8 = fun r => sbox (x r) := by unfold chg; rw [if_neg h, if_pos ⟨rfl, h4⟩]
        rw [e]; exact changed_mid8 _ (x 0) (x 1) (x 2) (x 3) _ _ _ _ i w h4 hi2 by'
      · have e : chg x i 8 = x := by unfold chg; rw [if_neg h, if_neg fun h' => h4 h'.2]
        rw [e]; exact changed_same8 _ (x 0) (x 1) (x 2) (x 3) i w h h4 hi2

/-! Parts of rows. -/
def setL (cs : List Value) (o : Nat) : List Value → List Value
  | [] => cs
  | v :: vs => setL (cs.set o v) (o + 1) vs
theorem setCells_row (g : Nat) (t : TypeId) : ∀ (vs : List Value) (o : Nat) (w : World) (cs : List Value), w.heap[g]? = some (.cells cs.toArray t (0, 0)) → (w.setCells g o vs).heap[g]? = some (.cells (setL cs o vs).toArray t (0, 0))
  | [], _, _, _, h => h
  | v :: vs, o, w, cs, h => setCells_row g t vs (o + 1) _ _ (cell_set_row w g o cs t v h)
theorem setCells_below (g B : Nat) (hB : B ≤ g) : ∀ (vs : List Value) (o : Nat) (w0 w : World), Below B w0 w → Below B w0 (w.setCells g o vs)
  | [], _, _, _, h => h
  | _ :: vs, o, w0, _, h => setCells_below g B hB vs (o + 1) w0 _ (h.setCell hB _)
theorem setCells_heap (g k : Nat) (hk : k ≠ g) : ∀ (vs : List Value) (o : Nat) (w : World), (w.setCells g o vs).heap[k]? = w.heap[k]?
  | [], _, _ => rfl
  | _ :: vs, o, _ => (setCells_heap g k hk vs (o + 1) _).trans (heap_setCell_other _ _ _ _ hk)
theorem setL_bc (n o : Nat) (F p : Nat → Nat) : setL (bc n F) o (bc 4 p) = bc n fun j => if o ≤ j ∧ j < o + 4 then p (j - o) else F j := by
  have e : bc 4 p = [.int .u8 (p 0 : Nat), .int .u8 (p 1 : Nat), .int .u8 (p 2 : Nat), .int .u8 (p 3 : Nat)] := rfl
  rw [e, setL, setL, setL, setL, setL, bc_set, bc_set, bc_set, bc_set]
  refine bc_congr fun j _ => ?_
  by_cases h : o ≤ j ∧ j < o + 4
  · rw [if_pos h]
    obtain h | h | h | h : j = o ∨ j = o + 1 ∨ j = o + 2 ∨ j = o + 3 := by omega
    · rw [if_neg (by omega), if_neg (by omega), if_neg (by omega), if_pos h, show j - o = 0 by omega]
    · rw [if_neg (by omega), if_neg (by omega), if_pos h, show j - o = 1 by omega]
    · rw [if_neg (by omega), if_pos (by omega), show j - o = 2 by omega]
    · rw [if_pos (by omega), show j - o = 3 by omega]
  · rw [if_neg h, if_neg (by omega), if_neg (by omega), if_neg (by omega), if_neg (by omega)]
theorem there_row {w : World} {g o m : Nat} {cs : List Value} {t : TypeId} (h : w.heap[g]? = some (.cells cs.toArray t (0, 0))) (hm : o + m ≤ cs.length) : w.there g o m := fun j hj =>
  ⟨by rw [cell_of_row w g _ _ _ _ h]; simp; omega, frozen_of_row w _ _ _ _ h⟩
theorem range_mid {w : World} {g o m n : Nat} {F : Nat → Nat} {t : TypeId} (h : w.heap[g]? = some (.cells (bc n F).toArray t (0, 0))) (hm : o + m ≤ n) : w.rangeAt g o (bc m fun r => F (o + r)) := fun j v hj => by
  have hjm : j < m := by have := (List.getElem?_eq_some_iff.1 hj).1; rwa [bc_len] at this
  rw [bc_get m _ j hjm] at hj
  rw [row_cell h (o + j) (by omega)]; exact hj
theorem word_mid (f : Nat → Nat) (hf : Byt f) (w : World) (b o : Nat) (h : w.rangeAt b o (bc 4 f)) :
    Calls Tryd.prog 58 #[.slice (some ⟨b, o, none⟩) 4 4, .int .i64 0] w fun e w' => e = .returned (.int .u32 (wd f : Nat)) ∧ Below w.heap.size w w' := by
  have := word_any (.slice (some ⟨b, o, none⟩) 4 4) (toB 4 f) 0 w ⟨by rw [toB_len]; decide, _, 4, by rw [toB_len], .inr ⟨b, o, rfl, fun i hi => by
    rw [toB_len] at hi
    rw [h i _ (bc_get 4 f i hi)]
    have := toB_get 4 f hf i hi
    unfold lf at this
    rw [this]⟩⟩
  rw [num_wd f hf] at this
  exact this
theorem num_wd_at (bs : List UInt8) (a : Nat) (h : a + 4 ≤ bs.length) : num bs a 4 = wd fun r => lf bs (a + r) := by
  have b : ∀ k : Nat, k < 4 → byteAt bs ((a : Int) + (k : Int)) = lf bs (a + k) := fun k hk => by
    rw [byteAt_in _ _ (by omega) (by omega), show ((a : Int) + (k : Int)).toNat = a + k by omega]; rfl
  have e : num bs a 4 = 0 + byteAt bs ((a : Int) + ((0 : Nat) : Int)) * 2 ^ (8 * 0) + byteAt bs ((a : Int) + ((1 : Nat) : Int)) * 2 ^ (8 * 1) + byteAt bs ((a : Int) + ((2 : Nat) : Int)) * 2 ^ (8 * 2) + byteAt bs ((a : Int) + ((3 : Nat) : Int)) * 2 ^ (8 * 3) := rfl
  rw [e, b 0 (by decide), b 1 (by decide), b 2 (by decide), b 3 (by decide)]
  show _ = lf bs (a + 0) + lf bs (a + 1) * 256 + lf bs (a + 2) * 65536 + lf bs (a + 3) * 16777216
  omega
/-- The bytes of a key's words, of which k are made. -/
def eb (kf : Nat → Nat) (n : Nat) : Nat → Nat → Nat
  | 0 => fun j => if j < 4 * n then kf j else 0
  | k + 1 => fun j => if 4 * (n + k) ≤ j ∧ j < 4 * (n + k) + 4 then eb kf n k (j - 4 * n) ^^^ chg (fun r => eb kf n k (4 * (n + k) - 4 + r)) (n + k) n (j - 4 * (n + k)) else eb kf n k j
theorem eb_byt {kf : Nat → Nat} (hk : Byt kf) (n : Nat) : ∀ k, Byt (eb kf n k)
  | 0 => fun j => by
    show (if j < 4 * n then kf j else 0) < 256
    split
    · exact hk j
    · exact Nat.zero_lt_succ _
  | k + 1 => fun j => by
    unfold eb
    split
    · exact xor_lt _ _ (eb_byt hk n k _) (chg_byt (fun r => eb_byt hk n k _) _ _ _)
    · exact eb_byt hk n k j
end Go.Proofs.YtlkihbmkekadeaaDoor
