/- Own: the contracts of the reference's rounds, with its boxes (no statement is proved here). -/
import Derived.Test.YtlkihbmkekadeaaDoorRMake
import Derived.Test.YtlkihbmkekadeaaDoorOT2
namespace Go.Proofs.YtlkihbmkekadeaaDoor
open Go.ChangeShapes Go.WideShapes Go.ChangeAt Go.RowKit
set_option maxRecDepth 20000

theorem sixteen_any (f k : Nat → Nat) (hf : Byt f) (hk : Byt k) (w : World) : Calls Tryd.prog 47 #[blkV f, blkV k] w fun e w' => e = .returned (blkV fun i => f i ^^^ k i) ∧ Below w.heap.size w w' :=
  sixteen_core f k (fun i => f i ^^^ k i) w fun i => xor_u8 _ _ (hf i) (hk i)
theorem sub_any (t f : Nat → Nat) (hf : Byt f) (w : World) : Calls Tryd.prog 69 #[.agg (bc 256 t).toArray, blkV f] w fun e w' => e = .returned (blkV fun i => t (f i)) ∧ Below w.heap.size w w' :=
  sub_core (bc 256 t) f (fun i => t (f i)) t w (bc_len _ _) hf (fun a ha => bc_get 256 t a ha) fun _ => rfl
/-- Each column of a block times a matrix. -/
def mixv (M : Nat → Nat → Nat) (f : Nat → Nat) (i : Nat) : Nat := mcol M (fun r => f (4 * (i / 4) + r)) (i % 4)
theorem mix_any (M : Nat → Nat → Nat) (b f : Nat → Nat) (hM : ∀ i r, i < 4 → r < 4 → M i r < 256) (hb : ∀ i r, i < 4 → r < 4 → b ((r + 4 - i) % 4) = M i r) (hf : Byt f) (w : World) :
    Calls Tryd.prog 67 #[blkV f, .agg (bc 4 b).toArray] w fun e w' => e = .returned (blkV (mixv M f)) ∧ Below w.heap.size w w' := by
  have m4 : ∀ i, i % 4 < 4 := fun i => Nat.mod_lt _ (by decide)
  have lt : ∀ i n, n ≤ 4 → colx (fun j => times (M (i % 4) j) (f (4 * (i / 4) + j))) n < 256 := fun i n => by
    induction n with
    | zero => intro _; exact Nat.zero_lt_succ _
    | succ n ih => intro hn; exact xor_lt _ _ (ih (by omega)) (times_lt _ _ (hM _ _ (m4 i) (by omega)))
  refine mix_core f (mixv M f) b (fun i n => colx (fun j => times (M (i % 4) j) (f (4 * (i / 4) + j))) n) (fun i j => times (M (i % 4) j) (f (4 * (i / 4) + j))) w (fun _ => rfl) (fun i => ?_) (fun i j _ hj => ?_) (fun i j _ hj w => ?_)
  · show (((0 ^^^ _) ^^^ _) ^^^ _) ^^^ _ = _
    rw [Nat.zero_xor]; rfl
  · exact xor_u8 _ _ (lt i j (by omega)) (times_lt _ _ (hM _ _ (m4 i) hj))
  · have h := ref_times (M (i % 4) j) (f (4 * (i / 4) + j)) (hM _ _ (m4 i) hj) (hf _) w
    rw [hb (i % 4) j (m4 i) hj, show i / 4 * 4 + j = 4 * (i / 4) + j by omega]
    exact h
theorem b_mix : ∀ i, i < 4 → ∀ r, r < 4 → ([2, 3, 1, 1] : List Nat).getD ((r + 4 - i) % 4) 0 = mixM i r := by decide
theorem b_un : ∀ i, i < 4 → ∀ r, r < 4 → ([14, 11, 13, 9] : List Nat).getD ((r + 4 - i) % 4) 0 = unM i r := by decide
theorem at4 (i : Nat) : 4 * (i / 4) + i % 4 = i := by omega
theorem rround_any (f k : Nat → Nat) (hf : Byt f) (hk : Byt k) (w : World) : Calls Tryd.prog 48 #[boxV, blkV f, blkV k] w fun e w' => e = .returned (blkV (rnd f k)) ∧ Below w.heap.size w w' := by
  have hs : Byt fun i => sbox (f i) := fun i => sbox_lt _ (hf i)
  have hs2 : Byt fun i => sbox (f (shi i)) := fun i => sbox_lt _ (hf _)
  have hm : Byt (mixv mixM fun i => sbox (f (shi i))) := fun i => mcol_lt _ _ _ fun r hr => mixM_lt _ r (Nat.mod_lt _ (by decide)) hr
  have h := rround_core (bc 256 sbox) (bc 256 isb) (bc 16 f) (bc 16 k) (bc 16 fun i => sbox (f i)) (bc 16 fun i => sbox (f (shi i))) (bc 16 (mixv mixM fun i => sbox (f (shi i)))) (bc 16 fun i => mixv mixM (fun i => sbox (f (shi i))) i ^^^ k i) w (bc_len _ _) (bc_len _ _) (bc_len _ _) (bc_len _ _) (bc_len _ _) (bc_one _ _)
    (fun w => sub_any sbox f hf w) (fun w => shift_core (fun i => sbox (f i)) _ w fun _ => rfl) (fun w => mix_any mixM (fun j => ([2, 3, 1, 1] : List Nat).getD j 0) _ (fun i r hi hr => mixM_lt i r hi hr) (fun i r hi hr => b_mix i hi r hr) hs2 w) (fun w => sixteen_any _ k hm hk w)
  have e : bc 16 (fun i => mixv mixM (fun i => sbox (f (shi i))) i ^^^ k i) = bc 16 (rnd f k) := bc_congr fun i hi => by
    unfold mixv rnd
    rw [mcol_congr mixM (b := fun r => sbox (f (shf (i / 4) r))) _ fun r hr => by show sbox (f (shi (4 * (i / 4) + r))) = _; unfold shi; rw [(quad _ r hr).1, (quad _ r hr).2]]
  rw [e] at h
  exact h
theorem rlast_any (f k : Nat → Nat) (hf : Byt f) (hk : Byt k) (w : World) : Calls Tryd.prog 49 #[boxV, blkV f, blkV k] w fun e w' => e = .returned (blkV (lst f k)) ∧ Below w.heap.size w w' := by
  have hs2 : Byt fun i => sbox (f (shi i)) := fun i => sbox_lt _ (hf _)
  exact rlast_core (bc 256 sbox) (bc 256 isb) (bc 16 f) (bc 16 k) (bc 16 fun i => sbox (f i)) (bc 16 fun i => sbox (f (shi i))) (bc 16 (lst f k)) w (bc_len _ _) (bc_len _ _) (bc_len _ _) (bc_len _ _) (bc_len _ _) (bc_one _ _)
    (fun w => sub_any sbox f hf w) (fun w => shift_core (fun i => sbox (f i)) _ w fun _ => rfl) (fun w => sixteen_any _ k hs2 hk w)
theorem runround_any (f k : Nat → Nat) (hf : Byt f) (hk : Byt k) (w : World) : Calls Tryd.prog 51 #[boxV, blkV f, blkV k] w fun e w' => e = .returned (blkV (unr f k)) ∧ Below w.heap.size w w' := by
  have hx : Byt fun i => f i ^^^ k i := fun i => xor_lt _ _ (hf i) (hk i)
  have hm : Byt (mixv unM fun i => f i ^^^ k i) := fun i => mcol_lt _ _ _ fun r hr => unM_lt _ r (Nat.mod_lt _ (by decide)) hr
  have hm2 : Byt fun i => mixv unM (fun i => f i ^^^ k i) (shb i) := fun i => hm _
  have h := runround_core (bc 256 sbox) (bc 256 isb) (bc 16 f) (bc 16 k) (bc 16 fun i => f i ^^^ k i) (bc 16 (mixv unM fun i => f i ^^^ k i)) (bc 16 fun i => mixv unM (fun i => f i ^^^ k i) (shb i)) (bc 16 fun i => isb (mixv unM (fun i => f i ^^^ k i) (shb i))) w (bc_len _ _) (bc_len _ _) (bc_len _ _) (bc_len _ _) (bc_len _ _) (bc_one _ _)
    (fun w => sixteen_any f k hf hk w) (fun w => mix_any unM (fun j => ([14, 11, 13, 9] : List Nat).getD j 0) _ (fun i r hi hr => unM_lt i r hi hr) (fun i r hi hr => b_un i hi r hr) hx w) (fun w => unshift_core (mixv unM fun i => f i ^^^ k i) _ w fun _ => rfl) (fun w => sub_any isb _ hm2 w)
  have e : bc 16 (fun i => isb (mixv unM (fun i => f i ^^^ k i) (shb i))) = bc 16 (unr f k) := bc_congr fun i hi => by
    unfold unr unl umx mixv
    rw [Nat.xor_zero]
  rw [e] at h
  exact h
theorem runlast_any (f k : Nat → Nat) (hf : Byt f) (hk : Byt k) (w : World) : Calls Tryd.prog 50 #[boxV, blkV f, blkV k] w fun e w' => e = .returned (blkV (unl f k)) ∧ Below w.heap.size w w' := by
  have hx : Byt fun i => f i ^^^ k i := fun i => xor_lt _ _ (hf i) (hk i)
  have hx2 : Byt fun i => f (shb i) ^^^ k (shb i) := fun i => hx _
  exact runlast_core (bc 256 sbox) (bc 256 isb) (bc 16 f) (bc 16 k) (bc 16 fun i => f i ^^^ k i) (bc 16 fun i => f (shb i) ^^^ k (shb i)) (bc 16 (unl f k)) w (bc_len _ _) (bc_len _ _) (bc_len _ _) (bc_len _ _) (bc_len _ _) (bc_one _ _)
    (fun w => sixteen_any f k hf hk w) (fun w => unshift_core (fun i => f i ^^^ k i) _ w fun _ => rfl) (fun w => sub_any isb _ hx2 w)
end Go.Proofs.YtlkihbmkekadeaaDoor
