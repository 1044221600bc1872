/- Own: bytes written, and their value (no statement is proved here). -/
import Derived.Test.YtenjcieaoedfaaaQ1
import Derived.KernelRfl
namespace Go.Proofs.Ytenjcieaoedfaaa.Ab
open Go.Proofs
set_option linter.unusedSimpArgs false
set_option linter.unusedVariables false
theorem fn6 : Try.prog.funcs[6]? = some Try.f6 := by kernel_rfl
theorem fn9 : Try.prog.funcs[9]? = some Try.f9 := by kernel_rfl
theorem fn7 : Try.prog.funcs[7]? = some Try.f7 := by kernel_rfl
theorem fn8 : Try.prog.funcs[8]? = some Try.f8 := by kernel_rfl
/-- The cells of a sum that has taken these bytes. -/
def stC (K : Int) (l : List Int) : List Value := sumC K (hv K l (l.length / 16)) (wt l) ((l.length % 16 : Nat) : Int)
theorem ovr_mid (A C D xs : List Value) (n : Nat) (h : n + xs.length ≤ C.length) : ovr (A ++ C ++ D) (A.length + n) xs = A ++ ovr C n xs ++ D := by
  unfold ovr
  have e1 : List.take (A.length + n) (A ++ C ++ D) = A ++ List.take n C := by
    rw [List.append_assoc, List.take_length_add_append, List.take_append_of_le_length (by omega)]
  have e2 : List.drop (A.length + n + xs.length) (A ++ C ++ D) = List.drop (n + xs.length) C ++ D := by
    rw [List.append_assoc, Nat.add_assoc, List.drop_length_add_append, List.drop_append_of_le_length (by omega)]
  rw [e1, e2]
  simp [List.append_assoc]
theorem ovr_row (L a n : Nat) (f g : Nat → Int) (h : a + n ≤ L) : ovr (ar8 L f) a (ar8 n g) = ar8 L (fun j => if a ≤ j ∧ j < a + n then g (j - a) else f j) := by
  have la : (ar8 L f).length = L := length_ar8 _ _
  have ln : (ar8 n g).length = n := length_ar8 _ _
  refine eq_ar8 (by rw [length_ovr _ _ _ (by omega), la]) fun j hj => ?_
  unfold ovr
  rw [ln]
  by_cases h1 : j < a
  · rw [List.append_assoc, List.getElem?_append_left (by simp; omega), List.getElem?_take, if_pos h1, getElem_ar8 _ _ _ hj, if_neg (by omega)]
  · by_cases h2 : j < a + n
    · rw [List.append_assoc, List.getElem?_append_right (by simp; omega), List.getElem?_append_left (by simp; omega), List.length_take, la, show j - min a L = j - a by omega, getElem_ar8 _ _ _ (by omega), if_pos ⟨by omega, h2⟩]
    · rw [List.getElem?_append_right (by simp; omega), List.getElem?_drop]
      simp only [List.length_append, List.length_take, la, ln]
      rw [show a + n + (j - (min a L + n)) = j by omega, getElem_ar8 _ _ _ hj, if_neg (by omega)]
theorem ovr27 (K v : Int) (g f : Nat → Int) (n m : Nat) (h : n + m ≤ 16) (z : Int) : ovr (sumC K v g z) (10 + n) (ar8 m f) = sumC K v (fun j => if n ≤ j ∧ j < n + m then f (j - n) else g j) z := by
  unfold sumC
  have := ovr_mid (ar32 5 (num K) ++ ar32 5 (num v)) (ar8 16 g) [.int .i64 z] (ar8 m f) n (by rw [length_ar8, length_ar8]; omega)
  rw [show (ar32 5 (num K) ++ ar32 5 (num v)).length = 10 by simp [length_ar32]] at this
  rw [this, ovr_row 16 n m g f h]
theorem prt_row (bs : List Int) (t m : Nat) (h : t + m ≤ bs.length) : List.take m (List.take (bs.length - t) (List.drop t (List.map (Value.int .u8) bs))) = ar8 m (fun j => bAt bs ((t + j : Nat) : Int)) := by
  refine eq_ar8 (by simp; omega) fun j hj => ?_
  rw [List.getElem?_take, if_pos hj, List.getElem?_take, if_pos (by omega), List.getElem?_drop, List.getElem?_map, List.getElem?_eq_getElem (by omega), bAt_in bs _ (by omega) (by omega)]
  rw [Int.toNat_natCast, List.getD_eq_getElem?_getD, List.getElem?_eq_getElem (by omega)]; rfl
/-- What waits, when more has come. -/
theorem wt_more (l bs : List Int) (t m : Nat) (h : t + m ≤ bs.length) (hm : (l.length + t) % 16 + m ≤ 16) (j : Nat) (hj : j < 16) :
    (if (l.length + t) % 16 ≤ j ∧ j < (l.length + t) % 16 + m then bAt bs ((t + (j - (l.length + t) % 16) : Nat) : Int) else wt (l ++ bs.take t) j) = bAt (l ++ bs.take (t + m)) ((16 * ((l.length + t) / 16) + j : Nat) : Int) := by
  have e1 : (l ++ bs.take t).length = l.length + t := by simp; omega
  unfold wt
  rw [e1, bAt_app, bAt_app, bAt_take, bAt_take]
  by_cases h1 : 16 * ((l.length + t) / 16) + j < l.length
  · rw [if_pos h1, if_pos h1]
    split
    · omega
    · rfl
  · rw [if_neg h1, if_neg h1]
    split
    · rw [if_pos (by omega)]; congr 2; omega
    · rename_i h2
      by_cases h3 : j < (l.length + t) % 16
      · rw [if_pos (by omega), if_pos (by omega)]
      · rw [if_neg (by omega), if_neg (by omega)]
theorem write_ok (K : Int) (l bs : List Int) (h8 : All8 (l ++ bs)) (hl : l.length + bs.length ≤ 1000000) : CallOK Try.prog (fun _ => none) 6 [.p 0 0, .sv 1 0 bs.length] [(0, .own (stC K l)), (1, .view (bs.map (Value.int .u8)))] { val := .tup [], upd := [(0, .own (stC K (l ++ bs)))], wks := [0] } := by
  refine CallOK.from0 hmix Try.f6 2 fn6 (by kernel_rfl) (by kernel_rfl) (fun w ρ h1 h2 => ?_)
  refine AG.rk 8 [0, 1] [0, 1] 2 (todo' := [.code (sub (codeOf Try.f6) [0, 1, 1]), .inScope (sub (codeOf Try.f6) [0])]) (st' := ⟨mkT 35 [(0, .p 0 0), (1, .sv 1 0 (List.length bs))], [(0, .own [Value.int .u32 (num K 0), Value.int .u32 (num K 1), Value.int .u32 (num K 2), Value.int .u32 (num K 3), Value.int .u32 (num K 4), Value.int .u32 (num (hv K l (List.length l / 16)) 0), Value.int .u32 (num (hv K l (List.length l / 16)) 1), Value.int .u32 (num (hv K l (List.length l / 16)) 2), Value.int .u32 (num (hv K l (List.length l / 16)) 3), Value.int .u32 (num (hv K l (List.length l / 16)) 4), Value.int .u8 (wt l 0), Value.int .u8 (wt l 1), Value.int .u8 (wt l 2), Value.int .u8 (wt l 3), Value.int .u8 (wt l 4), Value.int .u8 (wt l 5), Value.int .u8 (wt l 6), Value.int .u8 (wt l 7), Value.int .u8 (wt l 8), Value.int .u8 (wt l 9), Value.int .u8 (wt l 10), Value.int .u8 (wt l 11), Value.int .u8 (wt l 12), Value.int .u8 (wt l 13), Value.int .u8 (wt l 14), Value.int .u8 (wt l 15), Value.int .i64 (↑(List.length l % 16) : Int)]), (1, .view (List.map (Value.int .u8) bs))], 2⟩) (by kernel_rfl) (by kernel_rfl) ?_
  refine AG.indE (α := {x : Nat × Int × (Nat → Int) × Nat // x.1 ≤ bs.length ∧ x.2.2.2 = (l.length + x.1) % 16 ∧ x.2.1 = hv K (l ++ bs.take x.1) ((l.length + x.1) / 16) ∧ x.2.2.1 = wt (l ++ bs.take x.1)}) (fun x => bs.length - x.1.1)
    (fun x => ⟨mkT 35 [(0, .p 0 0), (1, .sv 1 x.1.1 (bs.length - x.1.1))], [(0, .own (sumC K x.1.2.1 x.1.2.2.1 (x.1.2.2.2 : Int))), (1, .view (List.map (Value.int IntKind.u8) bs))], 2⟩) ⟨(0, hv K l (l.length / 16), wt l, l.length % 16), by simp, by simp, by simp, by simp⟩ (by kernel_rfl) ?_
  rintro ⟨⟨t, v, g, n⟩, ht, hn, hv', hg⟩ ih
  simp only at ht hn hv' hg ih ⊢
  have hn16 : n < 16 := by omega
  obtain ⟨m, hm⟩ : ∃ m, m = min (bs.length - t) (16 - n) := ⟨_, rfl⟩
  have eL : min (List.take (bs.length - t) (List.drop t (List.map (Value.int IntKind.u8) bs))).length (16 - (n : Int).toNat) = m := by rw [hm]; simp
  have eO : ovr [Value.int IntKind.u32 (num K 0), Value.int IntKind.u32 (num K 1), Value.int IntKind.u32 (num K 2), Value.int IntKind.u32 (num K 3), Value.int IntKind.u32 (num K 4), Value.int IntKind.u32 (num v 0), Value.int IntKind.u32 (num v 1), Value.int IntKind.u32 (num v 2), Value.int IntKind.u32 (num v 3), Value.int IntKind.u32 (num v 4), Value.int IntKind.u8 (g 0), Value.int IntKind.u8 (g 1), Value.int IntKind.u8 (g 2), Value.int IntKind.u8 (g 3), Value.int IntKind.u8 (g 4), Value.int IntKind.u8 (g 5), Value.int IntKind.u8 (g 6), Value.int IntKind.u8 (g 7), Value.int IntKind.u8 (g 8), Value.int IntKind.u8 (g 9), Value.int IntKind.u8 (g 10), Value.int IntKind.u8 (g 11), Value.int IntKind.u8 (g 12), Value.int IntKind.u8 (g 13), Value.int IntKind.u8 (g 14), Value.int IntKind.u8 (g 15), Value.int IntKind.i64 ((n : Nat) : Int)] (10 + (n : Int).toNat * 1) (List.take m (List.take (bs.length - t) (List.drop t (List.map (Value.int IntKind.u8) bs)))) = sumC K v (fun j => if n ≤ j ∧ j < n + m then bAt bs ((t + (j - n) : Nat) : Int) else g j) (n : Int) := by
    rw [prt_row bs t m (by omega), Int.toNat_natCast, Nat.mul_one]
    exact ovr27 K v g _ n m (by omega) _
  refine AG.rk 1 [0, 1] [0, 1] 2 (todo' := [.code (sub (codeOf Try.f6) [0, 1, 1, 0]), .code (sub (codeOf Try.f6) [0, 1, 1, 1]), .inScope (sub (codeOf Try.f6) [0])]) (st' := ⟨mkT 35 [(0, .p 0 0), (1, .sv 1 t (List.length bs - t))], [(0, .own [Value.int .u32 (num K 0), Value.int .u32 (num K 1), Value.int .u32 (num K 2), Value.int .u32 (num K 3), Value.int .u32 (num K 4), Value.int .u32 (num v 0), Value.int .u32 (num v 1), Value.int .u32 (num v 2), Value.int .u32 (num v 3), Value.int .u32 (num v 4), Value.int .u8 (g 0), Value.int .u8 (g 1), Value.int .u8 (g 2), Value.int .u8 (g 3), Value.int .u8 (g 4), Value.int .u8 (g 5), Value.int .u8 (g 6), Value.int .u8 (g 7), Value.int .u8 (g 8), Value.int .u8 (g 9), Value.int .u8 (g 10), Value.int .u8 (g 11), Value.int .u8 (g 12), Value.int .u8 (g 13), Value.int .u8 (g 14), Value.int .u8 (g 15), Value.int .i64 (↑n : Int)]), (1, .view (List.map (Value.int .u8) bs))], 2⟩) (by kernel_rfl) (by kernel_rfl) ?_
  refine AG.gk [7, 9] [] [0, 1, 4] [0, 1] 2 (st' := ⟨mkT 35 [(0, .p 0 0), (1, .sv 1 t (List.length bs - t)), (4, .ex (.int .i64 (↑(min (List.length (List.take (List.length bs - t) (List.drop t (List.map (Value.int .u8) bs)))) (16 - Int.toNat (↑n : Int))) : Int)))], [(0, .own (ovr [Value.int .u32 (num K 0), Value.int .u32 (num K 1), Value.int .u32 (num K 2), Value.int .u32 (num K 3), Value.int .u32 (num K 4), Value.int .u32 (num v 0), Value.int .u32 (num v 1), Value.int .u32 (num v 2), Value.int .u32 (num v 3), Value.int .u32 (num v 4), Value.int .u8 (g 0), Value.int .u8 (g 1), Value.int .u8 (g 2), Value.int .u8 (g 3), Value.int .u8 (g 4), Value.int .u8 (g 5), Value.int .u8 (g 6), Value.int .u8 (g 7), Value.int .u8 (g 8), Value.int .u8 (g 9), Value.int .u8 (g 10), Value.int .u8 (g 11), Value.int .u8 (g 12), Value.int .u8 (g 13), Value.int .u8 (g 14), Value.int .u8 (g 15), Value.int .i64 (↑n : Int)] (10 + Int.toNat (↑n : Int) * 1) (List.take (min (List.length (List.take (List.length bs - t) (List.drop t (List.map (Value.int .u8) bs)))) (16 - Int.toNat (↑n : Int))) (List.take (List.length bs - t) (List.drop t (List.map (Value.int .u8) bs)))))), (1, .view (List.map (Value.int .u8) bs))], 2⟩) (obs := [Ob.ix 16 17, Ob.ix (↑n : Int) 17, Ob.le (10 + Int.toNat (↑n : Int) * 1 + (16 - Int.toNat (↑n : Int))) 27, Ob.one (List.take (List.length bs - t) (List.drop t (List.map (Value.int .u8) bs))), Ob.le (t + (List.length bs - t)) (List.length (List.map (Value.int .u8) bs))]) (by kernel_rfl) (by kernel_rfl) ⟨(Ob.holds_of_dec (by kernel_rfl)), (by (simp only [Ob.holds]; omega)), (by (simp only [Ob.holds]; omega)), (by exact one_take (one_drop (one_map _ _) _) _), (by (simp [Ob.holds]; omega)), trivial⟩ ?_
  refine AG.rk 1 [0, 1, 4] [0, 1] 2 (todo' := [.code (sub (codeOf Try.f6) [0, 1, 1, 1, 0]), .code (sub (codeOf Try.f6) [0, 1, 1, 1, 1]), .inScope (sub (codeOf Try.f6) [0])]) (st' := ⟨mkT 35 [(0, .p 0 0), (1, .sv 1 t (List.length bs - t)), (4, .ex (.int .i64 (↑(min (List.length (List.take (List.length bs - t) (List.drop t (List.map (Value.int .u8) bs)))) (16 - Int.toNat (↑n : Int))) : Int)))], [(0, .own (ovr [Value.int .u32 (num K 0), Value.int .u32 (num K 1), Value.int .u32 (num K 2), Value.int .u32 (num K 3), Value.int .u32 (num K 4), Value.int .u32 (num v 0), Value.int .u32 (num v 1), Value.int .u32 (num v 2), Value.int .u32 (num v 3), Value.int .u32 (num v 4), Value.int .u8 (g 0), Value.int .u8 (g 1), Value.int .u8 (g 2), Value.int .u8 (g 3), Value.int .u8 (g 4), Value.int .u8 (g 5), Value.int .u8 (g 6), Value.int .u8 (g 7), Value.int .u8 (g 8), Value.int .u8 (g 9), Value.int .u8 (g 10), Value.int .u8 (g 11), Value.int .u8 (g 12), Value.int .u8 (g 13), Value.int .u8 (g 14), Value.int .u8 (g 15), Value.int .i64 (↑n : Int)] (10 + Int.toNat (↑n : Int) * 1) (List.take (min (List.length (List.take (List.length bs - t) (List.drop t (List.map (Value.int .u8) bs)))) (16 - Int.toNat (↑n : Int))) (List.take (List.length bs - t) (List.drop t (List.map (Value.int .u8) bs)))))), (1, .view (List.map (Value.int .u8) bs))], 2⟩) (by kernel_rfl) (by kernel_rfl) ?_
  rewrite [eL, eO]
  generalize hgg : (fun j => if n ≤ j ∧ j < n + m then bAt bs ((t + (j - n) : Nat) : Int) else g j) = gg
  have hgj : ∀ j, j < 16 → gg j = bAt (l ++ bs.take (t + m)) ((16 * ((l.length + t) / 16) + j : Nat) : Int) := fun j hj => by
    rw [← hgg, hg, hn]; exact wt_more l bs t m (by omega) (by omega) j hj
  have e5 : IntKind.i64.wrap ((n : Int) + (m : Int)) = ((n + m : Nat) : Int) := by rw [wrap64_id _ (by omega) (by omega)]; omega
  have h8' : All8 (l ++ bs.take (t + m)) := fun x hx => h8 x (by
    rcases List.mem_append.1 hx with h | h
    · exact List.mem_append_left _ h
    · exact List.mem_append_right _ (List.mem_of_mem_take h))
  have hA : A16 gg := fun j hj => by rw [hgj j hj]; exact h8'.at _
  have eApp : l ++ bs.take (t + m) = (l ++ bs.take t) ++ (bs.drop t).take m := by rw [List.append_assoc, ← List.take_add]
  have eLen : (l ++ bs.take (t + m)).length = l.length + t + m := by simp; omega
  have c1 : n + m = 16 → _ := fun h16 => take_ok K v gg hA (n + m) (by omega) (fun j a b => by omega)
  clear eO eL
  refine AG.gk [] [(5, { val := .ex (.int .i64 (↑(n + m) : Int)) })] [0, 1, 4] [0, 1] 2 (st' := ⟨mkT 35 [(0, .p 0 0), (1, .sv 1 t (List.length bs - t)), (4, .ex (.int .i64 (↑m : Int)))], [(0, .own [Value.int .u32 (num K 0), Value.int .u32 (num K 1), Value.int .u32 (num K 2), Value.int .u32 (num K 3), Value.int .u32 (num K 4), Value.int .u32 (num v 0), Value.int .u32 (num v 1), Value.int .u32 (num v 2), Value.int .u32 (num v 3), Value.int .u32 (num v 4), Value.int .u8 (gg 0), Value.int .u8 (gg 1), Value.int .u8 (gg 2), Value.int .u8 (gg 3), Value.int .u8 (gg 4), Value.int .u8 (gg 5), Value.int .u8 (gg 6), Value.int .u8 (gg 7), Value.int .u8 (gg 8), Value.int .u8 (gg 9), Value.int .u8 (gg 10), Value.int .u8 (gg 11), Value.int .u8 (gg 12), Value.int .u8 (gg 13), Value.int .u8 (gg 14), Value.int .u8 (gg 15), Value.int .i64 (↑(n + m) : Int)]), (1, .view (List.map (Value.int .u8) bs))], 2⟩) (obs := [Ob.eq (.ex (.int .i64 (IntKind.wrap .i64 ((↑n : Int) + (↑m : Int))))) (.ex (.int .i64 (↑(n + m) : Int)))]) (by kernel_rfl) (by kernel_rfl) ⟨(by simp only [Ob.holds, e5]), trivial⟩ ?_
  refine AG.rk 1 [0, 1, 4] [0, 1] 2 (todo' := [.code (sub (codeOf Try.f6) [0, 1, 1, 1, 1, 0]), .code (sub (codeOf Try.f6) [0, 1, 1, 1, 1, 1]), .inScope (sub (codeOf Try.f6) [0])]) (st' := ⟨mkT 35 [(0, .p 0 0), (1, .sv 1 t (List.length bs - t)), (4, .ex (.int .i64 (↑m : Int)))], [(0, .own [Value.int .u32 (num K 0), Value.int .u32 (num K 1), Value.int .u32 (num K 2), Value.int .u32 (num K 3), Value.int .u32 (num K 4), Value.int .u32 (num v 0), Value.int .u32 (num v 1), Value.int .u32 (num v 2), Value.int .u32 (num v 3), Value.int .u32 (num v 4), Value.int .u8 (gg 0), Value.int .u8 (gg 1), Value.int .u8 (gg 2), Value.int .u8 (gg 3), Value.int .u8 (gg 4), Value.int .u8 (gg 5), Value.int .u8 (gg 6), Value.int .u8 (gg 7), Value.int .u8 (gg 8), Value.int .u8 (gg 9), Value.int .u8 (gg 10), Value.int .u8 (gg 11), Value.int .u8 (gg 12), Value.int .u8 (gg 13), Value.int .u8 (gg 14), Value.int .u8 (gg 15), Value.int .i64 (↑(n + m) : Int)]), (1, .view (List.map (Value.int .u8) bs))], 2⟩) (by kernel_rfl) (by kernel_rfl) ?_
  refine AG.gk [2] [] [0, 1] [0, 1] 2 (st' := ⟨mkT 35 [(0, .p 0 0), (1, .sv 1 (t + Int.toNat (↑m : Int) * 1) (List.length bs - t - Int.toNat (↑m : Int)))], [(0, .own [Value.int .u32 (num K 0), Value.int .u32 (num K 1), Value.int .u32 (num K 2), Value.int .u32 (num K 3), Value.int .u32 (num K 4), Value.int .u32 (num v 0), Value.int .u32 (num v 1), Value.int .u32 (num v 2), Value.int .u32 (num v 3), Value.int .u32 (num v 4), Value.int .u8 (gg 0), Value.int .u8 (gg 1), Value.int .u8 (gg 2), Value.int .u8 (gg 3), Value.int .u8 (gg 4), Value.int .u8 (gg 5), Value.int .u8 (gg 6), Value.int .u8 (gg 7), Value.int .u8 (gg 8), Value.int .u8 (gg 9), Value.int .u8 (gg 10), Value.int .u8 (gg 11), Value.int .u8 (gg 12), Value.int .u8 (gg 13), Value.int .u8 (gg 14), Value.int .u8 (gg 15), Value.int .i64 (↑(n + m) : Int)]), (1, .view (List.map (Value.int .u8) bs))], 2⟩) (obs := [Ob.ix (↑(List.length bs - t) : Int) (List.length bs - t + 1), Ob.ix (↑m : Int) (List.length bs - t + 1)]) (by kernel_rfl) (by kernel_rfl) ⟨(by (simp only [Ob.holds]; omega)), (by (simp only [Ob.holds]; omega)), trivial⟩ ?_
  refine AG.rk 2 [0, 1, 32] [0, 1] 2 (todo' := [.code (sub (codeOf Try.f6) [0, 1, 1, 1, 1, 1, 1]), .inScope (sub (codeOf Try.f6) [0])]) (st' := ⟨mkT 35 [(0, .p 0 0), (1, .sv 1 (t + Int.toNat (↑m : Int) * 1) (List.length bs - t - Int.toNat (↑m : Int))), (32, .ex (.bool ((↑(n + m) : Int) == 16)))], [(0, .own [Value.int .u32 (num K 0), Value.int .u32 (num K 1), Value.int .u32 (num K 2), Value.int .u32 (num K 3), Value.int .u32 (num K 4), Value.int .u32 (num v 0), Value.int .u32 (num v 1), Value.int .u32 (num v 2), Value.int .u32 (num v 3), Value.int .u32 (num v 4), Value.int .u8 (gg 0), Value.int .u8 (gg 1), Value.int .u8 (gg 2), Value.int .u8 (gg 3), Value.int .u8 (gg 4), Value.int .u8 (gg 5), Value.int .u8 (gg 6), Value.int .u8 (gg 7), Value.int .u8 (gg 8), Value.int .u8 (gg 9), Value.int .u8 (gg 10), Value.int .u8 (gg 11), Value.int .u8 (gg 12), Value.int .u8 (gg 13), Value.int .u8 (gg 14), Value.int .u8 (gg 15), Value.int .i64 (↑(n + m) : Int)]), (1, .view (List.map (Value.int .u8) bs))], 2⟩) (by kernel_rfl) (by kernel_rfl) ?_
  refine AG.cond (b := (↑(n + m) : Int) == 16) (by kernel_rfl) (fun hc => ?_) (fun hc => ?_)
  · have h16 : n + m = 16 := by simp at hc; omega
    clear hc
    have c1 := c1 h16
    rewrite [Int.toNat_natCast, Nat.mul_one, Nat.sub_sub]
    refine AG.rk 1 [0, 1] [0, 1] 2 (todo' := [.code (sub (codeOf Try.f6) [0, 1, 1, 1, 1, 1, 1, 0, 0]), .code (sub (codeOf Try.f6) [0, 1, 1, 1, 1, 1, 1, 0, 1]), .inScope (sub (codeOf Try.f6) [0])]) (st' := ⟨mkT 35 [(0, .p 0 0), (1, .sv 1 (t + m) (List.length bs - (t + m)))], [(0, .own [Value.int .u32 (num K 0), Value.int .u32 (num K 1), Value.int .u32 (num K 2), Value.int .u32 (num K 3), Value.int .u32 (num K 4), Value.int .u32 (num v 0), Value.int .u32 (num v 1), Value.int .u32 (num v 2), Value.int .u32 (num v 3), Value.int .u32 (num v 4), Value.int .u8 (gg 0), Value.int .u8 (gg 1), Value.int .u8 (gg 2), Value.int .u8 (gg 3), Value.int .u8 (gg 4), Value.int .u8 (gg 5), Value.int .u8 (gg 6), Value.int .u8 (gg 7), Value.int .u8 (gg 8), Value.int .u8 (gg 9), Value.int .u8 (gg 10), Value.int .u8 (gg 11), Value.int .u8 (gg 12), Value.int .u8 (gg 13), Value.int .u8 (gg 14), Value.int .u8 (gg 15), Value.int .i64 (↑(n + m) : Int)]), (1, .view (List.map (Value.int .u8) bs))], 2⟩) (by kernel_rfl) (by kernel_rfl) ?_
    refine AG.gk [] [(1, useR [(0, 0, 0)] 6 ({ val := .tup [], upd := [(0, .own (sumC K ((v + (leN (n + m) gg + 256 ^ (n + m))) * K) (fun x => 0) 0))], wks := [0] }))] [0, 1] [0, 1] 2 (st' := ⟨mkT 35 [(0, .p 0 0), (1, .sv 1 (t + m) (List.length bs - (t + m)))], [(0, .own [Value.int .u32 (num K 0), Value.int .u32 (num K 1), Value.int .u32 (num K 2), Value.int .u32 (num K 3), Value.int .u32 (num K 4), Value.int .u32 (num ((v + (leN (n + m) gg + 256 ^ (n + m))) * K) 0), Value.int .u32 (num ((v + (leN (n + m) gg + 256 ^ (n + m))) * K) 1), Value.int .u32 (num ((v + (leN (n + m) gg + 256 ^ (n + m))) * K) 2), Value.int .u32 (num ((v + (leN (n + m) gg + 256 ^ (n + m))) * K) 3), Value.int .u32 (num ((v + (leN (n + m) gg + 256 ^ (n + m))) * K) 4), Value.int .u8 0, Value.int .u8 0, Value.int .u8 0, Value.int .u8 0, Value.int .u8 0, Value.int .u8 0, Value.int .u8 0, Value.int .u8 0, Value.int .u8 0, Value.int .u8 0, Value.int .u8 0, Value.int .u8 0, Value.int .u8 0, Value.int .u8 0, Value.int .u8 0, Value.int .u8 0, Value.int .i64 0]), (1, .view (List.map (Value.int .u8) bs))], 2⟩) (obs := [Ob.call (fun g => List.lookup g []) 14 [.p 0 0] [(0, .own [Value.int .u32 (num K 0), Value.int .u32 (num K 1), Value.int .u32 (num K 2), Value.int .u32 (num K 3), Value.int .u32 (num K 4), Value.int .u32 (num v 0), Value.int .u32 (num v 1), Value.int .u32 (num v 2), Value.int .u32 (num v 3), Value.int .u32 (num v 4), Value.int .u8 (gg 0), Value.int .u8 (gg 1), Value.int .u8 (gg 2), Value.int .u8 (gg 3), Value.int .u8 (gg 4), Value.int .u8 (gg 5), Value.int .u8 (gg 6), Value.int .u8 (gg 7), Value.int .u8 (gg 8), Value.int .u8 (gg 9), Value.int .u8 (gg 10), Value.int .u8 (gg 11), Value.int .u8 (gg 12), Value.int .u8 (gg 13), Value.int .u8 (gg 14), Value.int .u8 (gg 15), Value.int .i64 (↑(n + m) : Int)])] (useR [(0, 0, 0)] 6 { val := .tup [], upd := [(0, .own (sumC K ((v + (leN (n + m) gg + 256 ^ (n + m))) * K) (fun x => 0) 0))], wks := [0] })]) (by kernel_rfl) (by kernel_rfl) ⟨(CallOK.at0 [(0, 0, 0)] 6 (c1 ) (.cons (.p rfl) .nil) (.cons rfl rfl ⟨rfl, rfl⟩ .nil) (by kernel_rfl)), trivial⟩ ?_
    refine AG.rk 3 [0, 1] [0, 1] 2 (todo' := [.code (sub (codeOf Try.f6) [0, 1, 1]), .inScope (sub (codeOf Try.f6) [0])]) (st' := ⟨mkT 35 [(0, .p 0 0), (1, .sv 1 (t + m) (List.length bs - (t + m)))], [(0, .own [Value.int .u32 (num K 0), Value.int .u32 (num K 1), Value.int .u32 (num K 2), Value.int .u32 (num K 3), Value.int .u32 (num K 4), Value.int .u32 (num ((v + (leN (n + m) gg + 256 ^ (n + m))) * K) 0), Value.int .u32 (num ((v + (leN (n + m) gg + 256 ^ (n + m))) * K) 1), Value.int .u32 (num ((v + (leN (n + m) gg + 256 ^ (n + m))) * K) 2), Value.int .u32 (num ((v + (leN (n + m) gg + 256 ^ (n + m))) * K) 3), Value.int .u32 (num ((v + (leN (n + m) gg + 256 ^ (n + m))) * K) 4), Value.int .u8 0, Value.int .u8 0, Value.int .u8 0, Value.int .u8 0, Value.int .u8 0, Value.int .u8 0, Value.int .u8 0, Value.int .u8 0, Value.int .u8 0, Value.int .u8 0, Value.int .u8 0, Value.int .u8 0, Value.int .u8 0, Value.int .u8 0, Value.int .u8 0, Value.int .u8 0, Value.int .i64 0]), (1, .view (List.map (Value.int .u8) bs))], 2⟩) (by kernel_rfl) (by kernel_rfl) ?_
    have eq : (l.length + (t + m)) / 16 = (l.length + t) / 16 + 1 := by omega
    refine AG.conv (by kernel_rfl) (ih ⟨(t + m, (v + (leN (n + m) gg + 256 ^ (n + m))) * K, fun _ => 0, 0), by simp only; omega, by simp only; omega, ?_, ?_⟩ (by simp only; omega))
    · simp only
      rw [eq]
      unfold hv
      congr 1
      congr 1
      · rw [hv', eApp, hv_app K (l ++ bs.take t) _ _ (by simp; omega)]
      · unfold pnum
        have e1 : psz (l ++ bs.take (t + m)) ((l.length + t) / 16) = n + m := by unfold psz; rw [eLen]; omega
        rw [e1]
        congr 1
        refine leN_congr fun j hj => ?_
        rw [hgj j (by omega)]
    · funext j
      simp only
      rw [wt_zero _ _ (by rw [eLen]; omega)]
  · have h16 : ¬ n + m = 16 := by simp at hc; omega
    clear hc ih c1
    have htm : t + m = bs.length := by omega
    have eS : sumC K v gg ((n + m : Nat) : Int) = stC K (l ++ bs) := by
      rw [htm, List.take_length] at eApp eLen hgj
      unfold stC sumC
      rw [ar8_congr (s := gg) (t := wt (l ++ bs)) fun j hj => by rw [hgj j hj]; unfold wt; congr 2; rw [eLen]; omega]
      rw [hv', show (l ++ bs).length / 16 = (l.length + t) / 16 by rw [eLen]; omega, show (l ++ bs).length % 16 = n + m by rw [eLen]; omega, eApp, hv_app K (l ++ bs.take t) _ _ (by simp; omega)]
    refine AG.rk 2 [] [0, 1] 2 (todo' := []) (st' := ⟨mkT 35 [], [(0, .own [Value.int .u32 (num K 0), Value.int .u32 (num K 1), Value.int .u32 (num K 2), Value.int .u32 (num K 3), Value.int .u32 (num K 4), Value.int .u32 (num v 0), Value.int .u32 (num v 1), Value.int .u32 (num v 2), Value.int .u32 (num v 3), Value.int .u32 (num v 4), Value.int .u8 (gg 0), Value.int .u8 (gg 1), Value.int .u8 (gg 2), Value.int .u8 (gg 3), Value.int .u8 (gg 4), Value.int .u8 (gg 5), Value.int .u8 (gg 6), Value.int .u8 (gg 7), Value.int .u8 (gg 8), Value.int .u8 (gg 9), Value.int .u8 (gg 10), Value.int .u8 (gg 11), Value.int .u8 (gg 12), Value.int .u8 (gg 13), Value.int .u8 (gg 14), Value.int .u8 (gg 15), Value.int .i64 (↑(n + m) : Int)]), (1, .view (List.map (Value.int .u8) bs))], 2⟩) (by kernel_rfl) (by kernel_rfl) ?_
    refine AG.fin ([]) Go.Proofs.Try.f6 fn6 (.inl rfl) (obs := []) (by kernel_rfl) trivial (by kernel_rfl) ⟨?_, trivial⟩ (by kernel_rfl)
    exact congrArg (fun z => some (Blk.own z)) eS
end Go.Proofs.Ytenjcieaoedfaaa.Ab
