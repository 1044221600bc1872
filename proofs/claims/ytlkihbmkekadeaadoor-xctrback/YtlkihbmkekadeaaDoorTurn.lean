/- Own: the contracts of layer 3's calls, with its tables (no statement is proved here). -/
import Derived.Test.YtlkihbmkekadeaaDoorLast
import Derived.Test.YtlkihbmkekadeaaDoorTNew
namespace Go.Proofs.YtlkihbmkekadeaaDoor
open Go.ChangeShapes Go.WideShapes Go.ChangeAt Go.RowKit
set_option maxRecDepth 20000

/-- A block, as a value. -/
def blkV (f : Nat → Nat) : Value := .agg (bc 16 f).toArray
theorem blkV_congr {f g : Nat → Nat} (h : ∀ i, i < 16 → f i = g i) : blkV f = blkV g := by unfold blkV; rw [bc_congr h]
theorem round_any (g : Nat) (f k : Nat → Nat) (hf : Byt f) (hk : Byt k) (w : World) (ht : IsTab w g) :
    Calls Tryd.prog 27 #[.pointer (some ⟨g, 0, none⟩), blkV f, blkV k] w fun e w' => e = .returned (blkV (rnd f k)) ∧ Below w.heap.size w w' :=
  round_core g f k (rnd f k) (fun r a => tw mixM r (sbox a)) (fun n i => n / 256 ^ i % 256) w hf hk (fun n i => Nat.mod_lt _ (by decide)) (fun r a hr _ => tw_lt _ _ _ fun i hi => mixM_lt i r hi hr)
    (fun w' hb r a hr ha => (ht.later hb).mix r a hr ha) (fun n hn w => put4 n hn w)
    (fun c r hc hr => by
      have e := col_byte mixM (fun r => sbox (f (shf c r))) (fun i r hi hr => mixM_lt i r hi hr) r hr
      unfold rnd
      rw [(quad c r hr).1, (quad c r hr).2]
      exact congrArg (· ^^^ k (4 * c + r)) e)
theorem last_any (g : Nat) (f k : Nat → Nat) (hf : Byt f) (hk : Byt k) (w : World) (ht : IsTab w g) :
    Calls Tryd.prog 28 #[.pointer (some ⟨g, 0, none⟩), blkV f, blkV k] w fun e w' => e = .returned (blkV (lst f k)) ∧ Below w.heap.size w w' :=
  last_core g f k (lst f k) sbox w hf hk sbox_lt ht.lt (fun w' hb a ha => (ht.later hb).box a ha)
    (fun c r hc hr => by unfold lst shi; rw [(quad c r hr).1, (quad c r hr).2])
theorem unlast_any (g : Nat) (f k : Nat → Nat) (hf : Byt f) (hk : Byt k) (w : World) (ht : IsTab w g) :
    Calls Tryd.prog 45 #[.pointer (some ⟨g, 0, none⟩), blkV f, blkV k] w fun e w' => e = .returned (blkV (unl f k)) ∧ Below w.heap.size w w' :=
  unlast_core g f k (unl f k) isb w hf hk ht.lt (fun w' hb a ha => (ht.later hb).back a ha)
    (fun c r hc hr => by unfold unl; rw [shb_shf c r hc hr])
theorem unround_any (g : Nat) (f k : Nat → Nat) (hf : Byt f) (hk : Byt k) (w : World) (ht : IsTab w g) :
    Calls Tryd.prog 46 #[.pointer (some ⟨g, 0, none⟩), blkV f, blkV k] w fun e w' => e = .returned (blkV (unr f k)) ∧ Below w.heap.size w w' :=
  unround_core g f k (umx f k) (unr f k) (fun r a => tw unM r a) (fun n i => n / 256 ^ i % 256) w hf hk (fun r a hr _ => tw_lt _ _ _ fun i hi => unM_lt i r hi hr)
    (fun w' hb r a hr ha => (ht.later hb).unmix r a hr ha) (fun n hn w => put4 n hn w)
    (fun c i hc hi => by
      have e := col_byte unM (fun r => f (4 * c + r) ^^^ k (4 * c + r)) (fun i r hi hr => unM_lt i r hi hr) i hi
      unfold umx
      rw [(quad c i hi).1, (quad c i hi).2]
      exact e)
    (fun w' hb => unlast_any g (umx f k) (fun _ => 0) (umx_byt f k) zero_byt w' (ht.later hb))
theorem box_any (g a : Nat) (ha : a < 256) (w : World) (ht : IsTab w g) : Calls Tryd.prog 81 #[.pointer (some ⟨g, 0, none⟩), .int .u8 (a : Nat)] w fun e w' => e = .returned (.int .u8 (sbox a : Nat)) ∧ w' = w := by
  have hc := ht.box a ha
  obtain ⟨x, hx⟩ : ∃ x, x = sbox a := ⟨_, rfl⟩
  rw [← hx] at hc ⊢
  clear hx ht
  have i1 : (a : Int) < 256 := by omega
  go_enter Tryd.func81, Tryd.ntmps81
  go_wp2
  go_ret
  exact ⟨rfl, rfl⟩
end Go.Proofs.YtlkihbmkekadeaaDoor
