/- Own: Decrypt of layer 4 by its contract; there and back (no statement is proved here). -/
import Derived.Test.YtlkihbmkekadeaaDoorADec
namespace Go.Proofs.YtlkihbmkekadeaaDoor
open Go.ChangeShapes Go.WideShapes Go.ChangeAt Go.RowKit
set_option maxRecDepth 20000

/-- A block on its way back. -/
def decU (F : Nat → Nat) (r : Nat) (f : Nat → Nat) : Nat → Nat → Nat
  | 0 => unl f fun x => F (16 * r + x)
  | j + 1 => unr (decU F r f j) fun x => F (16 * (r - 1 - j) + x)
/-- A block deciphered, by a key's bytes. -/
def decB (F : Nat → Nat) (r : Nat) (f : Nat → Nat) (i : Nat) : Nat := decU F r f (r - 1) i ^^^ F i
theorem decU_byt {F f : Nat → Nat} (hF : Byt F) (hf : Byt f) (r : Nat) : ∀ j, Byt (decU F r f j)
  | 0 => unl_byt hf fun _ => hF _
  | _ + 1 => unr_byt _ _
theorem decB_byt {F f : Nat → Nat} (hF : Byt F) (hf : Byt f) (r : Nat) : Byt (decB F r f) := fun i => xor_lt _ _ (decU_byt hF hf r _ i) (hF i)
theorem encB_byt {F f : Nat → Nat} (hF : Byt F) (hf : Byt f) (r : Nat) : Byt (encB F r f) :=
  lst_byt (rnds_byt (fun i => xor_lt _ _ (hf i) (hF i)) (fun _ _ => hF _) _) fun _ => hF _
theorem decrypt_any (k g r : Nat) (F f : Nat → Nat) (hF : Byt F) (hf : Byt f) (w : World) (hk : IsKey w k g r F) (ht : IsTab w g) (hr : 0 < r) (hr2 : r < 15) :
    Calls Tryd.prog 24 #[.pointer (some ⟨k, 0, none⟩), blkV f] w fun e w' => e = .returned (blkV (decB F r f)) ∧ Below w.heap.size w w' := by
  refine decrypt_core k g r F (fun j => bc 16 (decU F r f j)) (fun i => bc 16 fun j => F (16 * i + j)) (bc 16 f) (bc 16 (decB F r f)) (bc 16 fun j => F (16 * 0 + j)) (bc 16 fun j => F (16 * r + j)) w hk hr hr2
    (by rw [List.size_toArray, bc_len]) (fun j => by rw [List.size_toArray, bc_len]) (by rw [List.size_toArray, bc_len]) (fun j => bc_one _ _) (bc_one _ _) (by rw [bc_len]; rfl) (by rw [bc_len]; rfl) (fun i => by rw [bc_len]; rfl)
    (fun w' h => by have := h.at 0 (by omega); rwa [Nat.zero_mul] at this) (fun w' h => h.at r hr2) (fun i hi w' h => h.at i hi) (fun w' hb => ?_) (fun i j hij w' hb => ?_) (fun w' => ?_)
  · exact unlast_any g f (fun x => F (16 * r + x)) hf (fun _ => hF _) w' (ht.later hb)
  · have := unround_any g (decU F r f j) (fun x => F (16 * (i + 1) + x)) (decU_byt hF hf r j) (fun _ => hF _) w' (ht.later hb)
    rw [show i + 1 = r - 1 - j by omega] at this ⊢
    exact this
  · have := sum_any (decU F r f (r - 1)) (fun j => F (16 * 0 + j)) (decU_byt hF hf r _) (fun j => hF _) w'
    rw [bc_congr (f := fun i => decU F r f (r - 1) i ^^^ F (16 * 0 + i)) (g := decB F r f) fun i _ => by rw [Nat.mul_zero, Nat.zero_add]; rfl] at this
    exact this

/-! There and back. -/
theorem back_step {F f : Nat → Nat} (hF : Byt F) (hf : Byt f) (r : Nat) : ∀ j, j ≤ r - 1 → ∀ i, i < 16 → decU F r (encB F r f) j i = rnds (fun i => f i ^^^ F i) (fun i j => F (16 * (i + 1) + j)) (r - 1 - j) i
  | 0, _, i, hi => unl_lst (rnds_byt (fun i => xor_lt _ _ (hf i) (hF i)) (fun _ _ => hF _) _) i hi
  | j + 1, hj, i, hi => by
    have ih := back_step hF hf r j (by omega)
    obtain ⟨m, hm⟩ : ∃ m, r - 1 - j = m + 1 := ⟨r - 1 - j - 1, by omega⟩
    show unr (decU F r (encB F r f) j) (fun x => F (16 * (r - 1 - j) + x)) i = _
    rw [unr_congr ih (fun _ _ => rfl) i hi, hm, show r - 1 - (j + 1) = m by omega]
    exact unr_rnd (rnds_byt (fun i => xor_lt _ _ (hf i) (hF i)) (fun _ _ => hF _) _) i hi
theorem dec_enc {F f : Nat → Nat} (hF : Byt F) (hf : Byt f) (r : Nat) (i : Nat) (hi : i < 16) : decB F r (encB F r f) i = f i := by
  unfold decB
  rw [back_step hF hf r (r - 1) (Nat.le_refl _) i hi, Nat.sub_self]
  exact xor_twice _ _
theorem forth_step {F f : Nat → Nat} (hF : Byt F) (hf : Byt f) (r : Nat) : ∀ m, m ≤ r - 1 → ∀ i, i < 16 → rnds (fun i => decB F r f i ^^^ F i) (fun i j => F (16 * (i + 1) + j)) m i = decU F r f (r - 1 - m) i
  | 0, _, i, _ => xor_twice _ _
  | m + 1, hm, i, hi => by
    have ih := forth_step hF hf r m (by omega)
    obtain ⟨j, hj⟩ : ∃ j, r - 1 - m = j + 1 := ⟨r - 1 - m - 1, by omega⟩
    show rnd (rnds (fun i => decB F r f i ^^^ F i) (fun i j => F (16 * (i + 1) + j)) m) (fun x => F (16 * (m + 1) + x)) i = _
    rw [rnd_congr ih (fun _ _ => rfl) i hi, hj, show r - 1 - (m + 1) = j by omega]
    show rnd (unr (decU F r f j) fun x => F (16 * (r - 1 - j) + x)) (fun x => F (16 * (m + 1) + x)) i = _
    rw [show r - 1 - j = m + 1 by omega]
    exact rnd_unr (decU_byt hF hf r j) (fun _ => hF _) i hi
theorem enc_dec {F f : Nat → Nat} (hF : Byt F) (hf : Byt f) (r : Nat) (i : Nat) (hi : i < 16) : encB F r (decB F r f) i = f i := by
  unfold encB
  rw [lst_congr (forth_step hF hf r (r - 1) (Nat.le_refl _)) (fun _ _ => rfl) i hi, Nat.sub_self]
  exact lst_unl hf (fun _ => hF _) i hi
theorem encB_congr {F f f' : Nat → Nat} (r : Nat) (h : ∀ i, i < 16 → f i = f' i) : ∀ i, i < 16 → encB F r f i = encB F r f' i := by
  have hr : ∀ n i, i < 16 → rnds (fun i => f i ^^^ F i) (fun i j => F (16 * (i + 1) + j)) n i = rnds (fun i => f' i ^^^ F i) (fun i j => F (16 * (i + 1) + j)) n i := fun n => by
    induction n with
    | zero => intro i hi; show f i ^^^ F i = f' i ^^^ F i; rw [h i hi]
    | succ n ih => exact rnd_congr ih fun _ _ => rfl
  exact lst_congr (hr _) fun _ _ => rfl
end Go.Proofs.YtlkihbmkekadeaaDoor
