/- Own: what a hash of layer 6 holds behind some bytes (no statement is proved here). -/
import Derived.Test.YtfdkdbbigpphcaaDoorK10
import Derived.KernelRfl
namespace Go.Proofs.YtfdkdbbigpphcaaDoor.Ab
open Go.Proofs
set_option linter.unusedSimpArgs false
set_option linter.unusedVariables false
set_option maxRecDepth 4000
theorem fn51 : Tryd.prog.funcs[51]? = some Tryd.f51 := by kernel_rfl
/-- The block of a number, with noughts behind. -/
def blkD (D : List Int) (k : Nat) : List Int := List.take 128 (List.drop (128 * k) D) ++ List.replicate (128 - (D.length - 128 * k)) 0
theorem blkD_len (D : List Int) (k : Nat) (hk : 128 * k ≤ D.length) : (blkD D k).length = 128 := by
  unfold blkD; simp; omega
/-- How many blocks are compressed: the last one waits. -/
def nbD (D : List Int) : Nat := (D.length - 1) / 128
def chn (h0 : Nat → Int) (D : List Int) : Nat → Nat → Int
  | 0 => h0
  | k + 1 => kcmp (chn h0 D k) (blkD D k) (128 * (k + 1 : Nat)) 0 false
theorem blkD_app (D b : List Int) (k : Nat) (h : 128 * (k + 1) ≤ D.length) : blkD (D ++ b) k = blkD D k := by
  unfold blkD
  rw [List.drop_append_of_le_length (by omega), List.take_append_of_le_length (by simp; omega), List.length_append, show 128 - (D.length + b.length - 128 * k) = 0 by omega, show 128 - (D.length - 128 * k) = 0 by omega]
theorem chn_app (h0 : Nat → Int) (D b : List Int) : ∀ k, 128 * k ≤ D.length → chn h0 (D ++ b) k = chn h0 D k
  | 0, _ => rfl
  | k + 1, h => by
    show kcmp (chn h0 (D ++ b) k) (blkD (D ++ b) k) _ 0 false = kcmp (chn h0 D k) (blkD D k) _ 0 false
    rw [chn_app h0 D b k (by omega), blkD_app D b k h]
/-- A hash behind some bytes. -/
def hS (size : Int) (h0 : Nat → Int) (D : List Int) : List Value := hC size (chn h0 D (nbD D)) ((128 * nbD D : Nat) : Int) (blkD D (nbD D)) ((D.length - 128 * nbD D : Nat) : Int)
/-- Bytes laid over what waits. -/
theorem blkD_put (D b : List Int) (k n : Nat) (hk : 128 * k ≤ D.length) (hn : n = b.length) (hle : D.length - 128 * k + n ≤ 128) : List.take (D.length - 128 * k) (blkD D k) ++ b ++ List.drop (D.length - 128 * k + n) (blkD D k) = blkD (D ++ b) k := by
  obtain ⟨X, hX⟩ : ∃ X, X = List.drop (128 * k) D := ⟨_, rfl⟩
  have hd : X.length = D.length - 128 * k := by rw [hX]; simp
  have hR : List.drop (128 * k) (D ++ b) = X ++ b := by rw [hX]; exact List.drop_append_of_le_length hk
  unfold blkD
  rw [hR, ← hX, ← hd, List.length_append]
  have t1 : List.take 128 X = X := List.take_of_length_le (by omega)
  have t2 : List.take 128 (X ++ b) = X ++ b := List.take_of_length_le (by rw [List.length_append]; omega)
  have t3 : List.take X.length (X ++ List.replicate (128 - X.length) (0 : Int)) = X := by rw [List.take_append_of_le_length (Nat.le_refl _)]; exact List.take_of_length_le (Nat.le_refl _)
  have t4 : List.drop (X.length + n) (X ++ List.replicate (128 - X.length) (0 : Int)) = List.replicate (128 - (D.length + b.length - 128 * k)) 0 := by
    rw [List.drop_append, List.drop_of_length_le (by omega), List.nil_append, List.drop_replicate]
    congr 1
    omega
  rw [t1, t2, t3, t4]
theorem hC_copy (size : Int) (h : Nat → Int) (lo : Int) (W : List Int) (f g : Int) (hW : W.length = 128) (n : Nat) (b : List Int) (hn : n + b.length ≤ 128) : ovr (hC size h lo W f) (11 + n) (b.map (Value.int .u8)) = hC size h lo (List.take n W ++ b ++ List.drop (n + b.length) W) f := by
  have hl : ([.int .i64 size] ++ ar64 8 h ++ [.int .u64 lo, .int .u64 0] : List Value).length = 11 := rfl
  have e : ∀ V : List Int, hC size h lo V f = ([.int .i64 size] ++ ar64 8 h ++ [.int .u64 lo, .int .u64 0]) ++ (V.map (Value.int .u8) ++ [.int .i64 f]) := fun V => by unfold hC; simp only [List.append_assoc]
  unfold ovr
  rw [e W, e _, List.take_append, List.drop_append, hl, List.take_of_length_le (by rw [hl]; omega), show 11 + n - 11 = n by omega, List.length_map, List.drop_of_length_le (by rw [hl]; omega), show 11 + n + b.length - 11 = n + b.length by omega, List.nil_append, List.take_append_of_le_length (by simp [hW]; omega), List.drop_append_of_le_length (by simp [hW]; omega)]
  simp only [List.map_append, List.map_take, List.map_drop, List.append_assoc]
theorem nbD_le (D : List Int) : 128 * nbD D ≤ D.length := by unfold nbD; omega
theorem nbD_fill (D : List Int) : D.length - 128 * nbD D ≤ 128 := by unfold nbD; omega
/-- What a step of Write makes of a block that is not full. -/
theorem hS_more (size : Int) (h0 : Nat → Int) (D b : List Int) (hf : D.length - 128 * nbD D + b.length ≤ 128) : putAt (ovr (hS size h0 D) (11 + (D.length - 128 * nbD D)) (b.map (Value.int .u8))) 139 (Value.int .i64 ((D.length - 128 * nbD D + b.length : Nat) : Int)).cells.toList = hS size h0 (D ++ b) := by
  have hle := nbD_le D
  have hn : nbD (D ++ b) = nbD D := by unfold nbD at hf ⊢; rw [List.length_append]; omega
  unfold hS
  rw [hC_copy _ _ _ _ _ ((D.length - 128 * nbD D : Nat) : Int) (blkD_len _ _ hle) _ _ hf, blkD_put D b (nbD D) b.length hle rfl hf, hC_pfill _ _ _ _ _ _ (blkD_len _ _ (by rw [List.length_append]; omega)), hn, chn_app _ _ _ _ hle, List.length_append]
  congr 2
  omega
/-- ... of one that is full. -/
theorem hS_full (size : Int) (h0 : Nat → Int) (D b : List Int) (hf : D.length - 128 * nbD D = 128) (hb : 0 < b.length) (hb2 : b.length ≤ 128) : putAt (ovr (hC size (kcmp (chn h0 D (nbD D)) (blkD D (nbD D)) (((128 * nbD D : Nat) : Int) + ((128 : Nat) : Int)) 0 false) (((128 * nbD D : Nat) : Int) + ((128 : Nat) : Int)) (List.replicate 128 0) 0) (11 + 0) (b.map (Value.int .u8))) 139 (Value.int .i64 (b.length : Int)).cells.toList = hS size h0 (D ++ b) := by
  have hle := nbD_le D
  have hn : nbD (D ++ b) = nbD D + 1 := by unfold nbD at hf ⊢; rw [List.length_append]; omega
  have hD : 128 * (nbD D + 1) = D.length := by omega
  rw [hC_copy _ _ _ _ 0 (0 : Int) (by simp) _ _ (by omega), hC_pfill _ _ _ _ _ _ (by simp; omega)]
  unfold hS
  rw [hn, chn_app _ _ _ _ (by omega)]
  have e1 : chn h0 D (nbD D + 1) = kcmp (chn h0 D (nbD D)) (blkD D (nbD D)) (((128 * nbD D : Nat) : Int) + ((128 : Nat) : Int)) 0 false := by
    show kcmp _ _ (128 * ((nbD D + 1 : Nat) : Int)) 0 false = _
    rw [show 128 * ((nbD D + 1 : Nat) : Int) = ((128 * nbD D : Nat) : Int) + ((128 : Nat) : Int) by omega]
  have e2 : blkD (D ++ b) (nbD D + 1) = List.take 0 (List.replicate 128 0) ++ b ++ List.drop (0 + b.length) (List.replicate 128 0) := by
    unfold blkD
    rw [hD, List.drop_append, List.drop_of_length_le (Nat.le_refl _), Nat.sub_self, List.drop_zero, List.nil_append, List.take_of_length_le (by omega), List.take_zero, List.nil_append, Nat.zero_add, List.drop_replicate, List.length_append]
    congr 2
    omega
  rw [e1, e2, show (((128 * (nbD D + 1) : Nat)) : Int) = ((128 * nbD D : Nat) : Int) + ((128 : Nat) : Int) by omega, List.length_append, show D.length + b.length - 128 * (nbD D + 1) = b.length by omega]
theorem write_ok (size : Int) (h0 : Nat → Int) (D bs : List Int) (hD : D.length ≤ 100000) (hl : bs.length ≤ 100000) {rcs : List Value} (hr : rcs = krcs) : CallOK Tryd.prog (fun g => [(0, 2), (3, 3)].lookup g) 51 [.p 0 0, .sv 1 0 bs.length] [(0, .own (hS size h0 D)), (1, .view (bs.map (Value.int .u8))), (2, .view (kfirst.map (Value.int .u64))), (3, .view rcs)] { val := .tup [], upd := [(0, .own (hS size h0 (D ++ bs)))], wks := [0] } := by
  obtain ⟨Z, hZ⟩ : ∃ Z, Z = hS size h0 (D ++ bs) := ⟨_, rfl⟩
  obtain ⟨Y, hY⟩ : ∃ Y, Y = hS size h0 D := ⟨_, rfl⟩
  rw [← hZ, ← hY]
  refine CallOK.from hmix Tryd.f51 4 fn51 (by kernel_rfl) (by kernel_rfl) (fun wl ρ h1 h2 => ?_)
  refine AG.rk 8 [0, 1] [0, 1, 2, 3] 4 (todo' := [.code (sub (codeOf Tryd.f51) [0, 1, 1]), .inScope (sub (codeOf Tryd.f51) [0])]) (st' := ⟨mkT 38 [(0, .p 0 0), (1, .sv 1 0 (List.length bs))], [(0, .own Y), (1, .view (List.map (Value.int .u8) bs)), (2, .view [Value.int .u64 7640891576956012808, Value.int .u64 13503953896175478587, Value.int .u64 4354685564936845355, Value.int .u64 11912009170470909681, Value.int .u64 5840696475078001361, Value.int .u64 11170449401992604703, Value.int .u64 2270897969802886507, Value.int .u64 6620516959819538809]), (3, .view rcs)], 4⟩) (by kernel_rfl) (by kernel_rfl) ?_
  refine AG.indE (α := {x : Nat × List Value // x.1 ≤ bs.length ∧ x.2 = hS size h0 (D ++ List.take x.1 bs)}) (fun x => bs.length - x.1.1)
    (fun x => ⟨mkT 38 [(0, .p 0 0), (1, .sv 1 x.1.1 (bs.length - x.1.1))], [(0, .own x.1.2), (1, .view (bs.map (Value.int .u8))), (2, .view (kfirst.map (Value.int .u64))), (3, .view rcs)], 4⟩) ⟨(0, Y), by simp, by rw [hY]; simp⟩ (by kernel_rfl) ?_
  rintro ⟨⟨i, C⟩, hi, hC0⟩ ih
  simp only at hi hC0 ih ⊢
  obtain ⟨Di, hDi⟩ : ∃ Di, Di = D ++ List.take i bs := ⟨_, rfl⟩
  rw [← hDi] at hC0
  have hle := nbD_le Di
  have hfl := nbD_fill Di
  have hW := blkD_len Di (nbD Di) hle
  obtain ⟨f, hf⟩ : ∃ f, f = Di.length - 128 * nbD Di := ⟨_, rfl⟩
  have l0 : C.length = 140 := by rw [hC0]; exact hC_len _ _ _ _ _ hW
  have o0 : C.all (·.oneCell') = true := by rw [hC0]; exact hC_one _ _ _ _ _
  have f0 : C.getD 139 undef = .int .i64 (f : Int) := by rw [hC0, hf]; exact hC_fill _ _ _ _ _ hW
  refine AG.rk 2 [0, 1, 9] [0, 1, 2, 3] 4 (todo' := [.code (sub (codeOf Tryd.f51) [0, 1, 1, 1]), .inScope (sub (codeOf Tryd.f51) [0])]) (st' := ⟨mkT 38 [(0, .p 0 0), (1, .sv 1 i (List.length bs - i)), (9, .ex (.bool (decide ((↑(List.length bs - i) : Int) > 0))))], [(0, .own C), (1, .view (List.map (Value.int .u8) bs)), (2, .view [Value.int .u64 7640891576956012808, Value.int .u64 13503953896175478587, Value.int .u64 4354685564936845355, Value.int .u64 11912009170470909681, Value.int .u64 5840696475078001361, Value.int .u64 11170449401992604703, Value.int .u64 2270897969802886507, Value.int .u64 6620516959819538809]), (3, .view rcs)], 4⟩) (by kernel_rfl) (by kernel_rfl) ?_
  refine AG.cond (b := decide ((↑(List.length bs - i) : Int) > 0)) (by kernel_rfl) (fun hc => ?_) (fun hc => ?_)
  · have hi' : i < bs.length := by simp at hc; omega
    clear hc
    have hm : ∀ (C' : List Value) (f' : Nat), C'.length = 140 → C'.all (·.oneCell') = true → C'.getD 139 undef = .int .i64 (f' : Int) → f' < 128 → (∀ b : List Int, 0 < b.length → f' + b.length ≤ 128 → putAt (ovr C' (11 + f') (b.map (Value.int .u8))) 139 (Value.int .i64 ((f' + b.length : Nat) : Int)).cells.toList = hS size h0 (Di ++ b)) →
        AG (cxOf hmix [(0, 2), (3, 3)] 51 { val := .tup [], upd := [(0, .own Z)], wks := [0] } { w := wl, ρ := ρ, nb := 4, hb := h1, hd := h2 }) [.code (sub (codeOf Tryd.f51) [0, 1, 1, 1, 0, 1, 0]), .code (sub (codeOf Tryd.f51) [0, 1, 1, 1, 0, 1, 1]), .inScope (sub (codeOf Tryd.f51) [0])]
          ⟨mkT 38 [(0, .p 0 0), (1, .sv 1 i (bs.length - i))], [(0, .own C'), (1, .view (bs.map (Value.int .u8))), (2, .view (kfirst.map (Value.int .u64))), (3, .view rcs)], 4⟩ := by
      intro C' f' l1 o1 g1 hf1 hfin
      obtain ⟨m, hmm⟩ : ∃ m, m = min (bs.length - i) (128 - f') := ⟨_, rfl⟩
      obtain ⟨b, hb⟩ : ∃ b, b = List.take m (List.drop i bs) := ⟨_, rfl⟩
      have hbl : b.length = m := by rw [hb]; simp; omega
      have eM : min (List.take (bs.length - i) (List.drop i (List.map (Value.int .u8) bs))).length (128 - f') = m := by simp; omega
      have eT : List.take m (List.take (bs.length - i) (List.drop i (List.map (Value.int .u8) bs))) = b.map (Value.int .u8) := by
        rw [List.take_take, hb, List.map_take, List.map_drop]
        congr 1
        omega
      have hbo : (b.map (Value.int .u8)).all (·.oneCell') = true := one_map _ _
      have l2 : (ovr C' (11 + f') (b.map (Value.int .u8))).length = 140 := by rw [length_ovr _ _ _ (by rw [List.length_map, hbl, l1]; omega), l1]
      have o2 : (ovr C' (11 + f') (b.map (Value.int .u8))).all (·.oneCell') = true := by
        unfold ovr
        rw [List.all_append, List.all_append, Bool.and_eq_true, Bool.and_eq_true]
        exact ⟨⟨one_take o1 _, hbo⟩, one_drop o1 _⟩
      have g2 : (ovr C' (11 + f') (b.map (Value.int .u8))).getD 139 undef = .int .i64 (f' : Int) := by
        rw [← g1]
        unfold ovr
        rw [List.getD_eq_getElem?_getD, List.getD_eq_getElem?_getD, List.getElem?_append_right (by rw [List.length_append, List.length_take, List.length_map, hbl, l1]; omega), List.getElem?_drop]
        congr 2
        rw [List.length_append, List.length_take, List.length_map, hbl, l1]
        omega
      refine AG.gk [9] [(6, { val := .ex (.int .i64 (↑f' : Int)) }), (7, { val := .s 0 (11 + f' * 1) (128 - f') (128 - f') })] [0, 1, 4] [0, 1, 2, 3] 4 (st' := ⟨mkT 38 [(0, .p 0 0), (1, .sv 1 i (List.length bs - i)), (4, .ex (.int .i64 (↑(min (List.length (List.take (List.length bs - i) (List.drop i (List.map (Value.int .u8) bs)))) (128 - f')) : Int)))], [(0, .own (ovr C' (11 + f' * 1) (List.take (min (List.length (List.take (List.length bs - i) (List.drop i (List.map (Value.int .u8) bs)))) (128 - f')) (List.take (List.length bs - i) (List.drop i (List.map (Value.int .u8) bs)))))), (1, .view (List.map (Value.int .u8) bs)), (2, .view [Value.int .u64 7640891576956012808, Value.int .u64 13503953896175478587, Value.int .u64 4354685564936845355, Value.int .u64 11912009170470909681, Value.int .u64 5840696475078001361, Value.int .u64 11170449401992604703, Value.int .u64 2270897969802886507, Value.int .u64 6620516959819538809]), (3, .view rcs)], 4⟩) (obs := [Ob.eq (.ex (List.getD C' 139 undef)) (.ex (.int .i64 (↑f' : Int))), Ob.le 140 (List.length C'), Ob.eq (.s 0 (11 + Int.toNat (↑f' : Int) * 1) (128 - Int.toNat (↑f' : Int)) (128 - Int.toNat (↑f' : Int))) (.s 0 (11 + f' * 1) (128 - f') (128 - f')), Ob.ix 128 129, Ob.ix (↑f' : Int) 129, Ob.le (11 + f' * 1 + (128 - f')) (List.length C'), Ob.one (List.take (List.length bs - i) (List.drop i (List.map (Value.int .u8) bs))), Ob.le (i + (List.length bs - i)) (List.length (List.map (Value.int .u8) bs))]) (by kernel_rfl) (by kernel_rfl) ⟨(by simp only [Ob.holds, g1]), (by (simp only [Ob.holds]; omega)), (by simp only [Ob.holds, Int.toNat_natCast]), (Ob.holds_of_dec (by kernel_rfl)), (by (simp only [Ob.holds]; omega)), (by (simp only [Ob.holds]; omega)), (by exact one_take (one_drop (one_map _ _) _) _), (by (simp [Ob.holds]; omega)), trivial⟩ ?_
      rewrite [eM, eT, Nat.mul_one]
      obtain ⟨C2, hC2⟩ : ∃ C2, C2 = ovr C' (11 + f') (b.map (Value.int .u8)) := ⟨_, rfl⟩
      have hfin2 := hfin b (by omega) (by omega)
      rw [← hC2] at l2 o2 g2 hfin2 ⊢
      have w1 : IntKind.i64.wrap ((f' : Int) + (m : Int)) = ((f' + b.length : Nat) : Int) := by rw [wrap64_id _ (by omega) (by omega)]; omega
      have ih1 := ih ⟨(i + m, hS size h0 (Di ++ b)), by simp only; omega, by
        simp only
        rw [hDi, hb, List.append_assoc]
        congr 2
        rw [List.take_add]⟩ (by simp only; omega)
      simp only at ih1
      refine AG.rk 1 [0, 1, 4] [0, 1, 2, 3] 4 (todo' := [.code (sub (codeOf Tryd.f51) [0, 1, 1, 1, 0, 1, 1, 0]), .code (sub (codeOf Tryd.f51) [0, 1, 1, 1, 0, 1, 1, 1]), .inScope (sub (codeOf Tryd.f51) [0])]) (st' := ⟨mkT 38 [(0, .p 0 0), (1, .sv 1 i (List.length bs - i)), (4, .ex (.int .i64 (↑m : Int)))], [(0, .own C2), (1, .view (List.map (Value.int .u8) bs)), (2, .view [Value.int .u64 7640891576956012808, Value.int .u64 13503953896175478587, Value.int .u64 4354685564936845355, Value.int .u64 11912009170470909681, Value.int .u64 5840696475078001361, Value.int .u64 11170449401992604703, Value.int .u64 2270897969802886507, Value.int .u64 6620516959819538809]), (3, .view rcs)], 4⟩) (by kernel_rfl) (by kernel_rfl) ?_
      refine AG.gk [8] [(3, { val := .ex (.int .i64 (↑f' : Int)) }), (5, { val := .ex (.int .i64 (↑(f' + List.length b) : Int)) })] [0, 1, 4] [0, 1, 2, 3] 4 (st' := ⟨mkT 38 [(0, .p 0 0), (1, .sv 1 i (List.length bs - i)), (4, .ex (.int .i64 (↑m : Int)))], [(0, .own (putAt C2 139 (Value.cells (Value.int .i64 (↑(f' + List.length b) : Int))).toList)), (1, .view (List.map (Value.int .u8) bs)), (2, .view [Value.int .u64 7640891576956012808, Value.int .u64 13503953896175478587, Value.int .u64 4354685564936845355, Value.int .u64 11912009170470909681, Value.int .u64 5840696475078001361, Value.int .u64 11170449401992604703, Value.int .u64 2270897969802886507, Value.int .u64 6620516959819538809]), (3, .view rcs)], 4⟩) (obs := [Ob.eq (.ex (List.getD C2 139 undef)) (.ex (.int .i64 (↑f' : Int))), Ob.le 140 (List.length C2), Ob.eq (.ex (.int .i64 (IntKind.wrap .i64 ((↑f' : Int) + (↑m : Int))))) (.ex (.int .i64 (↑(f' + List.length b) : Int))), Ob.le 140 (List.length C2), Ob.le 1 1, Ob.le 1 1, Ob.one [Value.int .i64 (↑(f' + List.length b) : Int)]]) (by kernel_rfl) (by kernel_rfl) ⟨(by simp only [Ob.holds, g2]), (by (simp only [Ob.holds]; omega)), (by simp only [Ob.holds, w1]), (by (simp only [Ob.holds]; omega)), (Ob.holds_of_dec (by kernel_rfl)), (Ob.holds_of_dec (by kernel_rfl)), (by rfl), trivial⟩ ?_
      refine AG.rk 1 [0, 1, 4] [0, 1, 2, 3] 4 (todo' := [.code (sub (codeOf Tryd.f51) [0, 1, 1, 1, 0, 1, 1, 1, 0]), .code (sub (codeOf Tryd.f51) [0, 1, 1, 1, 0, 1, 1, 1, 1]), .inScope (sub (codeOf Tryd.f51) [0])]) (st' := ⟨mkT 38 [(0, .p 0 0), (1, .sv 1 i (List.length bs - i)), (4, .ex (.int .i64 (↑m : Int)))], [(0, .own (putAt C2 139 (Value.cells (Value.int .i64 (↑(f' + List.length b) : Int))).toList)), (1, .view (List.map (Value.int .u8) bs)), (2, .view [Value.int .u64 7640891576956012808, Value.int .u64 13503953896175478587, Value.int .u64 4354685564936845355, Value.int .u64 11912009170470909681, Value.int .u64 5840696475078001361, Value.int .u64 11170449401992604703, Value.int .u64 2270897969802886507, Value.int .u64 6620516959819538809]), (3, .view rcs)], 4⟩) (by kernel_rfl) (by kernel_rfl) ?_
      refine AG.gk [] [(2, { val := .sv 1 (i + m * 1) (List.length bs - i - m) })] [0, 1] [0, 1, 2, 3] 4 (st' := ⟨mkT 38 [(0, .p 0 0), (1, .sv 1 (i + m * 1) (List.length bs - i - m))], [(0, .own (putAt C2 139 (Value.cells (Value.int .i64 (↑(f' + List.length b) : Int))).toList)), (1, .view (List.map (Value.int .u8) bs)), (2, .view [Value.int .u64 7640891576956012808, Value.int .u64 13503953896175478587, Value.int .u64 4354685564936845355, Value.int .u64 11912009170470909681, Value.int .u64 5840696475078001361, Value.int .u64 11170449401992604703, Value.int .u64 2270897969802886507, Value.int .u64 6620516959819538809]), (3, .view rcs)], 4⟩) (obs := [Ob.eq (.sv 1 (i + Int.toNat (↑m : Int) * 1) (List.length bs - i - Int.toNat (↑m : Int))) (.sv 1 (i + m * 1) (List.length bs - i - m)), Ob.ix (↑(List.length bs - i) : Int) (List.length bs - i + 1), Ob.ix (↑m : Int) (List.length bs - i + 1)]) (by kernel_rfl) (by kernel_rfl) ⟨(by simp only [Ob.holds, Int.toNat_natCast]), (by (simp only [Ob.holds]; omega)), (by (simp only [Ob.holds]; omega)), trivial⟩ ?_
      refine AG.rk 3 [0, 1] [0, 1, 2, 3] 4 (todo' := [.code (sub (codeOf Tryd.f51) [0, 1, 1]), .inScope (sub (codeOf Tryd.f51) [0])]) (st' := ⟨mkT 38 [(0, .p 0 0), (1, .sv 1 (i + m * 1) (List.length bs - i - m))], [(0, .own (putAt C2 139 (Value.cells (Value.int .i64 (↑(f' + List.length b) : Int))).toList)), (1, .view (List.map (Value.int .u8) bs)), (2, .view [Value.int .u64 7640891576956012808, Value.int .u64 13503953896175478587, Value.int .u64 4354685564936845355, Value.int .u64 11912009170470909681, Value.int .u64 5840696475078001361, Value.int .u64 11170449401992604703, Value.int .u64 2270897969802886507, Value.int .u64 6620516959819538809]), (3, .view rcs)], 4⟩) (by kernel_rfl) (by kernel_rfl) ?_
      rewrite [hfin2, Nat.mul_one, show bs.length - i - m = bs.length - (i + m) by omega]
      generalize hS size h0 (Di ++ b) = Q at *
      exact AG.conv (by kernel_rfl) ih1
    by_cases h128 : f = 128
    · have g1 : ((f : Int) == 128) = true := by rw [h128]; rfl
      have hlD : Di.length ≤ 200000 := by rw [hDi, List.length_append, List.length_take]; omega
      have cc := hcomp_ok size (chn h0 Di (nbD Di)) ((128 * nbD Di : Nat) : Int) (blkD Di (nbD Di)) hW 128 (Nat.le_refl _) (by omega) false hr
      have hCe : hC size (chn h0 Di (nbD Di)) ((128 * nbD Di : Nat) : Int) (blkD Di (nbD Di)) ((128 : Nat) : Int) = C := by rw [hC0]; unfold hS; rw [← hf, h128]
      rw [hCe] at cc
      have hful := hS_full size h0 Di
      have l3 := hC_len size (kcmp (chn h0 Di (nbD Di)) (blkD Di (nbD Di)) (((128 * nbD Di : Nat) : Int) + ((128 : Nat) : Int)) 0 false) (((128 * nbD Di : Nat) : Int) + ((128 : Nat) : Int)) (List.replicate 128 0) 0 (by simp)
      have o3 := hC_one size (kcmp (chn h0 Di (nbD Di)) (blkD Di (nbD Di)) (((128 * nbD Di : Nat) : Int) + ((128 : Nat) : Int)) 0 false) (((128 * nbD Di : Nat) : Int) + ((128 : Nat) : Int)) (List.replicate 128 0) 0
      have g3 := hC_fill size (kcmp (chn h0 Di (nbD Di)) (blkD Di (nbD Di)) (((128 * nbD Di : Nat) : Int) + ((128 : Nat) : Int)) 0 false) (((128 * nbD Di : Nat) : Int) + ((128 : Nat) : Int)) (List.replicate 128 0) 0 (by simp)
      obtain ⟨C3, hC3⟩ : ∃ C3, C3 = hC size (kcmp (chn h0 Di (nbD Di)) (blkD Di (nbD Di)) (((128 * nbD Di : Nat) : Int) + ((128 : Nat) : Int)) 0 false) (((128 * nbD Di : Nat) : Int) + ((128 : Nat) : Int)) (List.replicate 128 0) 0 := ⟨_, rfl⟩
      rw [← hC3] at cc hful l3 o3 g3
      have hres := hm C3 0 l3 o3 g3 (by omega) fun b hb1 hb2 => by
        have := hful b (by rw [← hf]; exact h128) hb1 (by omega)
        rw [Nat.zero_add]
        exact this
      clear hful hC3 hCe
      refine AG.rk 2 [0, 1] [0, 1, 2, 3] 4 (todo' := [.code (sub (codeOf Tryd.f51) [0, 1, 1, 1, 0, 0, 0]), .code (sub (codeOf Tryd.f51) [0, 1, 1, 1, 0, 0, 1]), .code (sub (codeOf Tryd.f51) [0, 1, 1, 1, 0, 1]), .inScope (sub (codeOf Tryd.f51) [0])]) (st' := ⟨mkT 38 [(0, .p 0 0), (1, .sv 1 i (List.length bs - i))], [(0, .own C), (1, .view (List.map (Value.int .u8) bs)), (2, .view [Value.int .u64 7640891576956012808, Value.int .u64 13503953896175478587, Value.int .u64 4354685564936845355, Value.int .u64 11912009170470909681, Value.int .u64 5840696475078001361, Value.int .u64 11170449401992604703, Value.int .u64 2270897969802886507, Value.int .u64 6620516959819538809]), (3, .view rcs)], 4⟩) (by kernel_rfl) (by kernel_rfl) ?_
      refine AG.gk [] [(3, { val := .ex (.int .i64 (↑f : Int)) }), (4, { val := .ex (.bool true) })] [0, 1, 14] [0, 1, 2, 3] 4 (st' := ⟨mkT 38 [(0, .p 0 0), (1, .sv 1 i (List.length bs - i)), (14, .ex (.bool true))], [(0, .own C), (1, .view (List.map (Value.int .u8) bs)), (2, .view [Value.int .u64 7640891576956012808, Value.int .u64 13503953896175478587, Value.int .u64 4354685564936845355, Value.int .u64 11912009170470909681, Value.int .u64 5840696475078001361, Value.int .u64 11170449401992604703, Value.int .u64 2270897969802886507, Value.int .u64 6620516959819538809]), (3, .view rcs)], 4⟩) (obs := [Ob.eq (.ex (List.getD C 139 undef)) (.ex (.int .i64 (↑f : Int))), Ob.le 140 (List.length C), Ob.eq (.ex (.bool ((↑f : Int) == 128))) (.ex (.bool true))]) (by kernel_rfl) (by kernel_rfl) ⟨(by simp only [Ob.holds, f0]), (by (simp only [Ob.holds]; omega)), (by simp only [Ob.holds, g1]), trivial⟩ ?_
      refine AG.rk 1 [0, 1] [0, 1, 2, 3] 4 (todo' := [.code (sub (codeOf Tryd.f51) [0, 1, 1, 1, 0, 0, 1, 0]), .code (sub (codeOf Tryd.f51) [0, 1, 1, 1, 0, 1]), .inScope (sub (codeOf Tryd.f51) [0])]) (st' := ⟨mkT 38 [(0, .p 0 0), (1, .sv 1 i (List.length bs - i))], [(0, .own C), (1, .view (List.map (Value.int .u8) bs)), (2, .view [Value.int .u64 7640891576956012808, Value.int .u64 13503953896175478587, Value.int .u64 4354685564936845355, Value.int .u64 11912009170470909681, Value.int .u64 5840696475078001361, Value.int .u64 11170449401992604703, Value.int .u64 2270897969802886507, Value.int .u64 6620516959819538809]), (3, .view rcs)], 4⟩) (by kernel_rfl) (by kernel_rfl) ?_
      refine AG.gk [] [(1, useR [(0, 0, 0), (1, 2, 0), (2, 3, 0)] 8 ({ val := .tup [], upd := [(0, .own C3)], wks := [0] }))] [0, 1] [0, 1, 2, 3] 4 (st' := ⟨mkT 38 [(0, .p 0 0), (1, .sv 1 i (List.length bs - i))], [(0, .own C3), (1, .view (List.map (Value.int .u8) bs)), (2, .view [Value.int .u64 7640891576956012808, Value.int .u64 13503953896175478587, Value.int .u64 4354685564936845355, Value.int .u64 11912009170470909681, Value.int .u64 5840696475078001361, Value.int .u64 11170449401992604703, Value.int .u64 2270897969802886507, Value.int .u64 6620516959819538809]), (3, .view rcs)], 4⟩) (obs := [Ob.call (fun g => List.lookup g [(0, 2), (3, 3)]) 75 [.p 0 0, .ex (.bool false)] [(0, .own C), (2, .view [Value.int .u64 7640891576956012808, Value.int .u64 13503953896175478587, Value.int .u64 4354685564936845355, Value.int .u64 11912009170470909681, Value.int .u64 5840696475078001361, Value.int .u64 11170449401992604703, Value.int .u64 2270897969802886507, Value.int .u64 6620516959819538809]), (3, .view rcs)] (useR [(0, 0, 0), (1, 2, 0), (2, 3, 0)] 8 { val := .tup [], upd := [(0, .own C3)], wks := [0] })]) (by kernel_rfl) (by kernel_rfl) ⟨(CallOK.at [(0, 0, 0), (1, 2, 0), (2, 3, 0)] 8 (cc ) (.cons (.p rfl) (.cons (.ex _) .nil)) (.cons rfl rfl ⟨rfl, rfl⟩ (.cons rfl rfl ⟨_, rfl, (by exact cov_all _)⟩ (.cons rfl rfl ⟨_, rfl, (by exact cov_all _)⟩ .nil))) (by kernel_rfl)), trivial⟩ ?_
      refine AG.rk 1 [0, 1] [0, 1, 2, 3] 4 (todo' := [.code (sub (codeOf Tryd.f51) [0, 1, 1, 1, 0, 1, 0]), .code (sub (codeOf Tryd.f51) [0, 1, 1, 1, 0, 1, 1]), .inScope (sub (codeOf Tryd.f51) [0])]) (st' := ⟨mkT 38 [(0, .p 0 0), (1, .sv 1 i (List.length bs - i))], [(0, .own C3), (1, .view (List.map (Value.int .u8) bs)), (2, .view [Value.int .u64 7640891576956012808, Value.int .u64 13503953896175478587, Value.int .u64 4354685564936845355, Value.int .u64 11912009170470909681, Value.int .u64 5840696475078001361, Value.int .u64 11170449401992604703, Value.int .u64 2270897969802886507, Value.int .u64 6620516959819538809]), (3, .view rcs)], 4⟩) (by kernel_rfl) (by kernel_rfl) ?_
      exact hres
    · have g1 : ((f : Int) == 128) = false := by simp; omega
      refine AG.rk 2 [0, 1] [0, 1, 2, 3] 4 (todo' := [.code (sub (codeOf Tryd.f51) [0, 1, 1, 1, 0, 0, 0]), .code (sub (codeOf Tryd.f51) [0, 1, 1, 1, 0, 0, 1]), .code (sub (codeOf Tryd.f51) [0, 1, 1, 1, 0, 1]), .inScope (sub (codeOf Tryd.f51) [0])]) (st' := ⟨mkT 38 [(0, .p 0 0), (1, .sv 1 i (List.length bs - i))], [(0, .own C), (1, .view (List.map (Value.int .u8) bs)), (2, .view [Value.int .u64 7640891576956012808, Value.int .u64 13503953896175478587, Value.int .u64 4354685564936845355, Value.int .u64 11912009170470909681, Value.int .u64 5840696475078001361, Value.int .u64 11170449401992604703, Value.int .u64 2270897969802886507, Value.int .u64 6620516959819538809]), (3, .view rcs)], 4⟩) (by kernel_rfl) (by kernel_rfl) ?_
      refine AG.gk [] [(3, { val := .ex (.int .i64 (↑f : Int)) }), (4, { val := .ex (.bool false) })] [0, 1, 14] [0, 1, 2, 3] 4 (st' := ⟨mkT 38 [(0, .p 0 0), (1, .sv 1 i (List.length bs - i)), (14, .ex (.bool false))], [(0, .own C), (1, .view (List.map (Value.int .u8) bs)), (2, .view [Value.int .u64 7640891576956012808, Value.int .u64 13503953896175478587, Value.int .u64 4354685564936845355, Value.int .u64 11912009170470909681, Value.int .u64 5840696475078001361, Value.int .u64 11170449401992604703, Value.int .u64 2270897969802886507, Value.int .u64 6620516959819538809]), (3, .view rcs)], 4⟩) (obs := [Ob.eq (.ex (List.getD C 139 undef)) (.ex (.int .i64 (↑f : Int))), Ob.le 140 (List.length C), Ob.eq (.ex (.bool ((↑f : Int) == 128))) (.ex (.bool false))]) (by kernel_rfl) (by kernel_rfl) ⟨(by simp only [Ob.holds, f0]), (by (simp only [Ob.holds]; omega)), (by simp only [Ob.holds, g1]), trivial⟩ ?_
      refine AG.rk 3 [0, 1] [0, 1, 2, 3] 4 (todo' := [.code (sub (codeOf Tryd.f51) [0, 1, 1, 1, 0, 1, 0]), .code (sub (codeOf Tryd.f51) [0, 1, 1, 1, 0, 1, 1]), .inScope (sub (codeOf Tryd.f51) [0])]) (st' := ⟨mkT 38 [(0, .p 0 0), (1, .sv 1 i (List.length bs - i))], [(0, .own C), (1, .view (List.map (Value.int .u8) bs)), (2, .view [Value.int .u64 7640891576956012808, Value.int .u64 13503953896175478587, Value.int .u64 4354685564936845355, Value.int .u64 11912009170470909681, Value.int .u64 5840696475078001361, Value.int .u64 11170449401992604703, Value.int .u64 2270897969802886507, Value.int .u64 6620516959819538809]), (3, .view rcs)], 4⟩) (by kernel_rfl) (by kernel_rfl) ?_
      exact hm C f l0 o0 f0 (by omega) fun b hb1 hb2 => by rw [hC0, hf]; exact hS_more size h0 Di b (by rw [← hf]; exact hb2)
  · have hiB : i = bs.length := by simp at hc; omega
    clear hc ih
    have hCZ : C = Z := by rw [hC0, hDi, hZ, hiB, List.take_length]
    rw [hCZ]
    refine AG.rk 2 [] [0, 1, 2, 3] 4 (todo' := []) (st' := ⟨mkT 38 [], [(0, .own Z), (1, .view (List.map (Value.int .u8) bs)), (2, .view [Value.int .u64 7640891576956012808, Value.int .u64 13503953896175478587, Value.int .u64 4354685564936845355, Value.int .u64 11912009170470909681, Value.int .u64 5840696475078001361, Value.int .u64 11170449401992604703, Value.int .u64 2270897969802886507, Value.int .u64 6620516959819538809]), (3, .view rcs)], 4⟩) (by kernel_rfl) (by kernel_rfl) ?_
    refine AG.fin ([]) Go.Proofs.Tryd.f51 fn51 (.inl rfl) (obs := []) (by kernel_rfl) trivial (by kernel_rfl) ⟨(by kernel_rfl), trivial⟩ (by kernel_rfl)
end Go.Proofs.YtfdkdbbigpphcaaDoor.Ab
