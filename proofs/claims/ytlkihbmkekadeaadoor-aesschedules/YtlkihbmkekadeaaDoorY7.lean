/- Own: the reference's boxes and rounds, told of the abstract heap (no statement is proved here). -/
import Derived.Test.YtlkihbmkekadeaaDoorT1
import Derived.Test.YtlkihbmkekadeaaDoorRAny
namespace Go.Proofs.YtlkihbmkekadeaaDoor.Ab
open Go.Proofs Go.RowKit
set_option linter.unusedSimpArgs false
set_option linter.unusedVariables false
set_option maxRecDepth 20000
theorem CallOK.ofPure {f : FuncId} {args : List Value} {v : Value} (h : ∀ w, Calls Tryd.prog f args.toArray w fun e w' => e = .returned v ∧ Below w.heap.size w w') : CallOK Tryd.prog (fun _ => none) f (args.map .ex) [] { val := .ex v } := CallOK.ofCalls h
/-- The reference's boxes: cells. -/
def bxR : List Value := bc 256 sbox ++ bc 256 isb
theorem bxR_to (x : Int) (hx : R8 x) : bxR.getD x.toNat undef = .int .u8 ((sbox x.toNat : Nat) : Int) := by
  unfold R8 at hx
  unfold bxR
  rw [List.getD_eq_getElem?_getD, List.getElem?_append_left (by rw [bc_len]; omega), bc_get 256 sbox _ (by omega)]; rfl
theorem rmk_ok {bR : List Value} (hb : bR = bxR) : CallOK Tryd.prog (fun _ => none) 21 [] [] { val := .ex (.agg bR.toArray) } := by
  rw [hb]; exact CallOK.ofPure (args := []) rmake_any
theorem rrd_ok {bR : List Value} (hb : bR = bxR) (s k : Nat → Int) (hs : B8 s) (hk : B8 k) : CallOK Tryd.prog (fun _ => none) 48 [.ex (.agg bR.toArray), .ex (.agg (ar8 16 s).toArray), .ex (.agg (ar8 16 k).toArray)] [] { val := .ex (.agg (ar8 16 (rndI s k)).toArray) } := by
  rw [hb]
  exact CallOK.ofPure (args := [.agg bxR.toArray, .agg (ar8 16 s).toArray, .agg (ar8 16 k).toArray]) fun w => by
    rw [← blkV_ar8 s hs, ← blkV_ar8 k hk]; exact rround_any (nI s) (nI k) (byt_nI hs) (byt_nI hk) w
theorem rls_ok {bR : List Value} (hb : bR = bxR) (s k : Nat → Int) (hs : B8 s) (hk : B8 k) : CallOK Tryd.prog (fun _ => none) 49 [.ex (.agg bR.toArray), .ex (.agg (ar8 16 s).toArray), .ex (.agg (ar8 16 k).toArray)] [] { val := .ex (.agg (ar8 16 (lstI s k)).toArray) } := by
  rw [hb]
  exact CallOK.ofPure (args := [.agg bxR.toArray, .agg (ar8 16 s).toArray, .agg (ar8 16 k).toArray]) fun w => by
    rw [← blkV_ar8 s hs, ← blkV_ar8 k hk]; exact rlast_any (nI s) (nI k) (byt_nI hs) (byt_nI hk) w
theorem run_ok {bR : List Value} (hb : bR = bxR) (s k : Nat → Int) (hs : B8 s) (hk : B8 k) : CallOK Tryd.prog (fun _ => none) 51 [.ex (.agg bR.toArray), .ex (.agg (ar8 16 s).toArray), .ex (.agg (ar8 16 k).toArray)] [] { val := .ex (.agg (ar8 16 (unrI s k)).toArray) } := by
  rw [hb]
  exact CallOK.ofPure (args := [.agg bxR.toArray, .agg (ar8 16 s).toArray, .agg (ar8 16 k).toArray]) fun w => by
    rw [← blkV_ar8 s hs, ← blkV_ar8 k hk]; exact runround_any (nI s) (nI k) (byt_nI hs) (byt_nI hk) w
theorem rul_ok {bR : List Value} (hb : bR = bxR) (s k : Nat → Int) (hs : B8 s) (hk : B8 k) : CallOK Tryd.prog (fun _ => none) 50 [.ex (.agg bR.toArray), .ex (.agg (ar8 16 s).toArray), .ex (.agg (ar8 16 k).toArray)] [] { val := .ex (.agg (ar8 16 (unlI s k)).toArray) } := by
  rw [hb]
  exact CallOK.ofPure (args := [.agg bxR.toArray, .agg (ar8 16 s).toArray, .agg (ar8 16 k).toArray]) fun w => by
    rw [← blkV_ar8 s hs, ← blkV_ar8 k hk]; exact runlast_any (nI s) (nI k) (byt_nI hs) (byt_nI hk) w
theorem r16_ok (s k : Nat → Int) (hs : B8 s) (hk : B8 k) : CallOK Tryd.prog (fun _ => none) 47 [.ex (.agg (ar8 16 s).toArray), .ex (.agg (ar8 16 k).toArray)] [] { val := .ex (.agg (ar8 16 (fun i => xor8 (s i) (k i))).toArray) } := by
  have e : ar8 16 (fun i => xor8 (s i) (k i)) = bc 16 (fun i => nI s i ^^^ nI k i) := ar8_congr fun i _ => xor8_eq _ _ (hs i) (hk i)
  rw [e]
  exact CallOK.ofPure (args := [.agg (ar8 16 s).toArray, .agg (ar8 16 k).toArray]) fun w => by
    rw [← blkV_ar8 s hs, ← blkV_ar8 k hk]; exact sixteen_any (nI s) (nI k) (byt_nI hs) (byt_nI hk) w
end Go.Proofs.YtlkihbmkekadeaaDoor.Ab
