/- Own: expanded of layer 4, by its contract (no statement is proved here). -/
import Derived.Test.YtlkihbmkekadeaaDoorAExp
namespace Go.Proofs.YtlkihbmkekadeaaDoor
open Go.ChangeShapes Go.WideShapes Go.ChangeAt Go.RowKit
set_option maxRecDepth 20000

theorem expanded_any (g : Nat) (v : Value) (bs : List UInt8) (n many : Nat) (w : World) (hv : IsB w v bs) (ht : IsTab w g) (hn : n = 4 ∨ n = 6 ∨ n = 8) (hlen : bs.length = 4 * n) (hmany : n < many) (hm60 : many ≤ 60) :
    Calls Tryd.prog 37 #[.pointer (some ⟨g, 0, none⟩), v, .int .i64 (many : Nat)] w fun e w' => e = .returned (.agg (bc 240 (eb (lf bs) n (many - n))).toArray) ∧ Below w.heap.size w w' := by
  obtain ⟨h0, a, cap, rfl, h1⟩ := hv
  have hv : IsB w (.slice a bs.length cap) bs := ⟨h0, a, cap, rfl, h1⟩
  have hb := lf_byt bs
  have hP : ∀ k, Byt fun r => eb (lf bs) n k (4 * (n + k) - 4 + r) := fun k r => eb_byt hb n k _
  have hQ : ∀ k, Byt fun r => eb (lf bs) n k (4 * k + r) := fun k r => eb_byt hb n k _
  have hC : ∀ k, Byt (chg (fun r => eb (lf bs) n k (4 * (n + k) - 4 + r)) (n + k) n) := fun k => chg_byt (hP k) _ _
  refine expanded_core _ a bs.length cap n many (lf bs) (eb (lf bs) n) (fun k => chg (fun r => eb (lf bs) n k (4 * (n + k) - 4 + r)) (n + k) n)
    (fun k r => eb (lf bs) n k (4 * k + r) ^^^ chg (fun r => eb (lf bs) n k (4 * (n + k) - 4 + r)) (n + k) n r)
    (fun i => wd fun r => lf bs (4 * i + r)) (fun k => wd fun r => eb (lf bs) n k (4 * k + r)) (fun k => wd (chg (fun r => eb (lf bs) n k (4 * (n + k) - 4 + r)) (n + k) n))
    (fun k => (wd fun r => eb (lf bs) n k (4 * k + r)) ^^^ wd (chg (fun r => eb (lf bs) n k (4 * (n + k) - 4 + r)) (n + k) n))
    w hn hlen hmany hm60 ?_ ?_ ?_ ?_ ?_ ?_ ?_ ?_ ?_
  · exact rfl
  · intro k _
    refine bc_congr fun j _ => ?_
    show _ = if 4 * (n + k) ≤ j ∧ j < 4 * (n + k) + 4 then _ else _
    by_cases h : 4 * (n + k) ≤ j ∧ j < 4 * (n + k) + 4
    · rw [if_pos h, if_pos h]
      show eb (lf bs) n k (4 * k + (j - 4 * (n + k))) ^^^ _ = _
      rw [show 4 * k + (j - 4 * (n + k)) = j - 4 * n by omega]
    · rw [if_neg h, if_neg h]
  · intro i hi w' hbl
    have := word_any (.slice a bs.length cap) bs ((4 * i : Nat) : Int) w' (hv.later hbl)
    rw [num_wd_at bs (4 * i) (by omega)] at this
    exact this
  · intro i hi w'
    have h4 : ∀ r, r < 4 → lf bs (4 * i + r) < 256 := fun r _ => hb _
    have := put4 (wd fun r => lf bs (4 * i + r)) (wd_lt h4) w'
    rw [bc_congr fun r hr => wd_byte h4 r hr] at this
    exact this
  · intro k hk w' hbl
    exact changed_any g _ (hP k) (n + k) n hn (by omega) (by omega) w' (ht.later hbl)
  · intro k hk w' b o h
    exact word_mid _ (hQ k) w' b o h
  · intro k hk w' b o h
    exact word_mid _ (hC k) w' b o h
  · intro k hk
    exact xor_u32 _ _ (wd_lt fun r _ => hQ k r) (wd_lt fun r _ => hC k r)
  · intro k hk w'
    have hlt : (wd fun r => eb (lf bs) n k (4 * k + r)) ^^^ wd (chg (fun r => eb (lf bs) n k (4 * (n + k) - 4 + r)) (n + k) n) < 4294967296 :=
      Nat.xor_lt_two_pow (n := 32) (wd_lt fun r _ => hQ k r) (wd_lt fun r _ => hC k r)
    have := put4 _ hlt w'
    rw [bc_congr fun r hr => (byte_xor _ _ r).trans (by rw [wd_byte (fun r _ => hQ k r) r hr, wd_byte (fun r _ => hC k r) r hr])] at this
    exact this
end Go.Proofs.YtlkihbmkekadeaaDoor
