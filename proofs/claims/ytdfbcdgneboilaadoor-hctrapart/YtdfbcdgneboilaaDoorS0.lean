/- Own: when two strings of bytes are the same (no statement is proved here). -/
import Derived.Test.YtdfbcdgneboilaaDoorO0
import Derived.KernelRfl
namespace Go.Proofs.YtdfbcdgneboilaaDoor.Ab
open Go.Proofs
set_option linter.unusedSimpArgs false
set_option linter.unusedVariables false
theorem toList_loop (bs : ByteArray) : ∀ (k i : Nat) (r : List UInt8), bs.size - i = k → ByteArray.toList.loop bs i r = r.reverse ++ bs.data.toList.drop i
  | 0, i, r, h => by
    rw [ByteArray.toList.loop, if_neg (by omega), List.drop_eq_nil_of_le (by show bs.data.size ≤ i; have : bs.size = bs.data.size := rfl; omega), List.append_nil]
  | k + 1, i, r, h => by
    have hs : bs.size = bs.data.size := rfl
    have hi : i < bs.data.toList.length := by rw [Array.length_toList]; omega
    rw [ByteArray.toList.loop, if_pos (by omega), toList_loop bs k (i + 1) _ (by omega), List.drop_eq_getElem_cons hi, List.reverse_cons, List.append_assoc]
    have e : bs.get! i = bs.data.toList[i] := by
      show bs.data[i]! = _
      rw [getElem!_pos bs.data i (by omega)]
      simp
    rw [e]; rfl
theorem toList_data (bs : ByteArray) : bs.toList = bs.data.toList := by
  unfold ByteArray.toList
  rw [toList_loop bs _ 0 [] rfl]; simp
theorem strOf_fold (l : List Int) (k : IntKind) : ∀ (r : ByteArray), ((l.map (Value.int k)).foldl (fun r v => match v with | .int _ n => r.push (UInt8.ofNat n.toNat) | _ => r) r).data.toList = r.data.toList ++ l.map fun n => UInt8.ofNat n.toNat := by
  induction l with
  | nil => intro r; simp
  | cons x l ih =>
    intro r
    rw [List.map_cons, List.foldl_cons, ih]
    simp [ByteArray.push]
theorem strOf_data (l : List Int) (k : IntKind) : (strOf (l.map (Value.int k))).toList = l.map fun n => UInt8.ofNat n.toNat := by
  rw [toList_data]
  exact (strOf_fold l k ByteArray.empty).trans (by simp)
theorem u8_inj {x y : Int} (hx : R8 x) (hy : R8 y) (h : UInt8.ofNat x.toNat = UInt8.ofNat y.toNat) : x = y := by
  have := congrArg UInt8.toNat h
  simp only [UInt8.toNat_ofNat'] at this
  unfold R8 at hx hy
  omega
theorem map_u8_inj : ∀ {l m : List Int}, All8 l → All8 m → (l.map fun n => UInt8.ofNat n.toNat) = (m.map fun n => UInt8.ofNat n.toNat) → l = m
  | [], [], _, _, _ => rfl
  | [], _ :: _, _, _, h => by cases h
  | _ :: _, [], _, _, h => by cases h
  | x :: l, y :: m, hl, hm, h => by
    simp only [List.map_cons, List.cons.injEq] at h
    rw [u8_inj (hl x (by simp)) (hm y (by simp)) h.1, map_u8_inj (fun z hz => hl z (by simp [hz])) (fun z hz => hm z (by simp [hz])) h.2]
theorem str_eq (l m : List Int) (hl : All8 l) (hm : All8 m) : ((strOf (l.map (Value.int .u8))).toList == (strOf (m.map (Value.int .u8))).toList) = decide (l = m) := by
  rw [strOf_data, strOf_data]
  by_cases h : l = m
  · subst h; simp
  · rw [decide_eq_false h, beq_eq_false_iff_ne]
    exact fun e => h (map_u8_inj hl hm e)
end Go.Proofs.YtdfbcdgneboilaaDoor.Ab
