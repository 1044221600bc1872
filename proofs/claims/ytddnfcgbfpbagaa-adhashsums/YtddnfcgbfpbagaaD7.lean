/- Own: laws of layer 12 followed (no statement is proved here). -/
import Derived.Test.YtddnfcgbfpbagaaD3w
import Derived.Test.YtddnfcgbfpbagaaQ5
import Derived.KernelRfl
namespace Go.Proofs.Ytddnfcgbfpbagaa.Ab
open Go.Proofs
set_option linter.unusedSimpArgs false
set_option linter.unusedVariables false
theorem fn4 : Try.prog.funcs[4]? = some Try.f4 := by kernel_rfl
theorem fn5 : Try.prog.funcs[5]? = some Try.f5 := by kernel_rfl
theorem fn6 : Try.prog.funcs[6]? = some Try.f6 := by kernel_rfl
theorem bAt_rep (n : Nat) (j : Int) : bAt (List.replicate n (0 : Int)) j = 0 := by
  unfold bAt
  split
  · rw [List.getD_eq_getElem?_getD, List.getElem?_replicate]; split <;> rfl
  · rfl
theorem kn_zero : kn (fun _ => 0) = 0 := by decide +kernel
theorem tv_zero (l : List Int) : tv 0 l = 0 := hv_zero l _
theorem hdF_zero (m : Nat) (t : List Int) : hdF (fun _ => 0) m t = fun _ => 0 := by unfold hdF; rw [kn_zero, tv_zero, lowv_zero]
theorem bdF_zero (w : Nat → Int) (bs : List Int) : bdF (fun _ => 0) w bs = fun _ => 0 := by unfold bdF; rw [kn_zero, tv_zero, lowv_zero]
theorem tv_nil (K : Int) : tv K [] = 0 := rfl
theorem bdF_nil (b w : Nat → Int) : bdF b w [] = fun _ => 0 := by
  unfold bdF
  show lowv (tv (kn b) []) = _
  rw [tv_nil, lowv_zero]
/-- A key of noughts, but for three bytes. -/
def ks1 (r : Nat) : List Int := 1 :: (List.replicate 15 0 ++ 1 :: (List.replicate 15 0 ++ 1 :: List.replicate r 0))
theorem len_ks1 (r : Nat) : (ks1 r).length = r + 33 := by
  unfold ks1
  rw [List.length_cons, List.length_append, List.length_cons, List.length_append, List.length_cons, List.length_replicate, List.length_replicate]
  omega
theorem all8_rep (n : Nat) : All8 (List.replicate n (0 : Int)) := fun x hx => by rw [List.eq_of_mem_replicate hx]; exact ⟨by decide, by decide⟩
theorem all8_ks1 (r : Nat) : All8 (ks1 r) := by
  intro x hx
  unfold ks1 at hx
  simp only [List.mem_cons, List.mem_append, List.mem_replicate] at hx
  rcases hx with rfl | ⟨_, rfl⟩ | rfl | ⟨_, rfl⟩ | rfl | ⟨_, rfl⟩ <;> exact ⟨by decide, by decide⟩
theorem rep_cut (n m : Nat) (v : Value) : List.replicate (n + (m + 1)) v = List.replicate n v ++ v :: List.replicate m v := by
  rw [← List.replicate_append_replicate, List.replicate_succ]
theorem put_cons (l r : List Value) (v x : Value) (n : Nat) (h : l.length = n) : putAt (l ++ v :: r) n [x] = l ++ x :: r := by
  subst h
  unfold putAt
  simp
theorem put_three (z o : Value) (r n : Nat) (h : n = r + 33) : putAt (putAt (putAt (List.replicate n z) 0 [o]) 16 [o]) 32 [o] = o :: (List.replicate 15 z ++ o :: (List.replicate 15 z ++ o :: List.replicate r z)) := by
  have e : List.replicate n z = [] ++ z :: (List.replicate 15 z ++ z :: (List.replicate 15 z ++ z :: List.replicate r z)) := by
    rw [← rep_cut 15 r, ← rep_cut 15 (15 + (r + 1)), List.nil_append, ← List.replicate_succ, h]
    congr 1
    omega
  rw [e, put_cons [] _ z o 0 rfl]
  have e2 : ([] : List Value) ++ o :: (List.replicate 15 z ++ z :: (List.replicate 15 z ++ z :: List.replicate r z)) = (o :: List.replicate 15 z) ++ z :: (List.replicate 15 z ++ z :: List.replicate r z) := rfl
  rw [e2, put_cons (o :: List.replicate 15 z) _ z o 16 (by rw [List.length_cons, List.length_replicate])]
  have e3 : (o :: List.replicate 15 z) ++ o :: (List.replicate 15 z ++ z :: List.replicate r z) = ((o :: List.replicate 15 z) ++ (o :: List.replicate 15 z)) ++ z :: List.replicate r z := by
    rw [List.append_assoc, List.cons_append]; rfl
  rw [e3, put_cons _ _ z o 32 (by rw [List.length_append, List.length_cons, List.length_replicate]), List.append_assoc, List.cons_append]
  rfl
theorem map_ks1 (r n : Nat) (h : n = r + 33) : (ks1 r).map (Value.int .u8) = putAt (putAt (putAt (List.replicate n (Value.int .u8 0)) 0 [Value.int .u8 1]) 16 [Value.int .u8 1]) 32 [Value.int .u8 1] := by
  rw [put_three _ _ r n h]
  unfold ks1
  rw [List.map_cons, List.map_append, List.map_cons, List.map_append, List.map_cons, List.map_replicate, List.map_replicate]
theorem clm_congr {a b : Nat → Int} (h : ∀ j, j < 16 → a j = b j) : clm a = clm b := by
  unfold clm
  rw [h 0 (by decide), h 1 (by decide), h 2 (by decide), h 3 (by decide), h 4 (by decide), h 5 (by decide), h 6 (by decide), h 7 (by decide), h 8 (by decide), h 9 (by decide), h 10 (by decide), h 11 (by decide), h 12 (by decide), h 13 (by decide), h 14 (by decide), h 15 (by decide)]
theorem ks1_at (r : Nat) (j : Nat) (hj : j < 16) : bAt (ks1 r) (j : Int) = arf [1, 0, 0, 0, 0, 0, 0, 0, 0, 0, 0, 0, 0, 0, 0, 0] j := by
  rw [bAt_in _ _ (by omega) (by rw [len_ks1]; omega), Int.toNat_natCast, List.getD_eq_getElem?_getD]
  rcases (by omega : j = 0 ∨ j = 1 ∨ j = 2 ∨ j = 3 ∨ j = 4 ∨ j = 5 ∨ j = 6 ∨ j = 7 ∨ j = 8 ∨ j = 9 ∨ j = 10 ∨ j = 11 ∨ j = 12 ∨ j = 13 ∨ j = 14 ∨ j = 15) with rfl | rfl | rfl | rfl | rfl | rfl | rfl | rfl | rfl | rfl | rfl | rfl | rfl | rfl | rfl | rfl <;> rfl
theorem head_one (a : Nat → Int) (h : ∀ j, j < 16 → a j = arf [1, 0, 0, 0, 0, 0, 0, 0, 0, 0, 0, 0, 0, 0, 0, 0] j) : w2lo (hdF a 1 []) = 8 ∧ w2hi (hdF a 1 []) = 0 := by
  have e : hdF a 1 [] = hdF (arf [1, 0, 0, 0, 0, 0, 0, 0, 0, 0, 0, 0, 0, 0, 0, 0]) 1 [] := by
    unfold hdF kn; rw [clm_congr h]
  rw [e]
  decide +kernel
theorem awake12_gen (n r : Nat) (hn : n = 1104) (hr : n = r + 33) : CallOK Try.prog (fun _ => none) 23 [] [] { val := .ex (.bool true) } := by
  have c1 := anew_ok (List.replicate n 0) (by rw [List.length_replicate, hn])
  have hA : (fun i : Nat => bAt (List.replicate n (0 : Int)) (i : Int)) = fun _ => 0 := funext fun i => bAt_rep _ _
  have hB : (fun i : Nat => bAt ((List.replicate n (0 : Int)).drop 16) (i : Int)) = fun _ => 0 := by
    rw [List.drop_replicate]; exact funext fun i => bAt_rep _ _
  rw [hA, hB, List.length_replicate, List.map_replicate] at c1
  have z16 : A16 (fun _ => 0) := fun j _ => (⟨by decide, by decide⟩ : R8 0)
  have c2 := sum_ok (fun _ => 0) (fun _ => 0) (wOf ((List.replicate n (0 : Int)).drop 32)) z16 z16 [] [1] (fun x hx => by cases hx) (by decide) all8_one (by decide)
  rw [hdF_zero, bdF_zero, show sumLo (fun _ => 0) (fun _ => 0) = 0 from rfl, show sumHi (fun _ => 0) (fun _ => 0) = 0 from rfl] at c2
  have c3 := anew_ok (ks1 r) (by rw [len_ks1]; omega)
  rw [len_ks1, map_ks1 r n hr, ← hr] at c3
  have h1 : A16 (fun i : Nat => bAt (ks1 r) i) := fun j _ => (all8_ks1 r).at _
  have h2 : A16 (fun i : Nat => bAt ((ks1 r).drop 16) i) := fun j _ => (show All8 ((ks1 r).drop 16) from fun x hx => all8_ks1 r x (List.mem_of_mem_drop hx)).at _
  have c4 := head_ok (fun i : Nat => bAt (ks1 r) i) (fun i : Nat => bAt ((ks1 r).drop 16) i) (wOf ((ks1 r).drop 32)) h1 [] (fun x hx => by cases hx) (by decide) 1 1 rfl (by decide)
  rw [show lowv (tv (kn (fun i : Nat => bAt (ks1 r) i)) ((List.range 16).map (len8 1) ++ [])) = hdF (fun i : Nat => bAt (ks1 r) i) 1 [] from rfl] at c4
  have c5 := body_ok (fun i : Nat => bAt (ks1 r) i) (fun i : Nat => bAt ((ks1 r).drop 16) i) (wOf ((ks1 r).drop 32)) h2 [] (fun x hx => by cases hx) (by decide)
  rw [show lowv (tv (kn (fun i : Nat => bAt ((ks1 r).drop 16) i)) (pcsL (wOf ((ks1 r).drop 32)) (padL []) ((([] : List Int).length + 1023) / 1024))) = fun _ => 0 from bdF_nil _ _] at c5
  obtain ⟨q1, q2⟩ := head_one (fun i : Nat => bAt (ks1 r) i) (ks1_at r)
  unfold w2 at c4 c5
  rw [q1, q2] at c4
  rw [show w2lo (fun _ => 0) = 0 from rfl, show w2hi (fun _ => 0) = 0 from rfl] at c5
  clear hA hB z16 h1 h2 q1 q2
  generalize adC (fun _ => 0) (fun _ => 0) (wOf ((List.replicate n (0 : Int)).drop 32)) = C0 at *
  generalize adC (fun i : Nat => bAt (ks1 r) i) (fun i : Nat => bAt ((ks1 r).drop 16) i) (wOf ((ks1 r).drop 32)) = C1 at *
  obtain ⟨Z, hZ⟩ : ∃ Z, Z = List.replicate n (Value.int .u8 0) := ⟨_, rfl⟩
  have hZl : Z.length = 1104 := by rw [hZ, List.length_replicate, hn]
  rw [← hZ, hn] at c1 c3
  have l1 : (putAt Z 0 (Value.int .u8 1).cells.toList).length = 1104 := by rw [length_putAt _ _ _ (by rw [hZl]; decide), hZl]
  have l2 : (putAt (putAt Z 0 (Value.int .u8 1).cells.toList) 16 (Value.int .u8 1).cells.toList).length = 1104 := by rw [length_putAt _ _ _ (by rw [l1]; decide), l1]
  have l3 : (putAt (putAt (putAt Z 0 (Value.int .u8 1).cells.toList) 16 (Value.int .u8 1).cells.toList) 32 (Value.int .u8 1).cells.toList).length = 1104 := by rw [length_putAt _ _ _ (by rw [l2]; decide), l2]
  refine CallOK.from0 hmix Try.f23 0 fn23 (by kernel_rfl) (by kernel_rfl) (fun wl ρ h1 h2 => ?_)
  refine AG.rk 5 [1] [4] 5 (todo' := [.code (sub (codeOf Try.f23) [1, 1, 0]), .code (sub (codeOf Try.f23) [1, 1, 1])]) (st' := ⟨mkT 56 [(1, .s 4 0 1104 1104)], [(4, .own (List.replicate 1104 (Value.int .u8 0)))], 5⟩) (by kernel_rfl) (by kernel_rfl) ?_
  rewrite [show List.replicate 1104 (Value.int IntKind.u8 0) = Z by rw [hZ, hn]]
  refine AG.gk [] [(1, useR [(0, 4, 0)] 9 ({ val := .tup [.p 1 0, .ex (.int .i64 0)], upd := [(1, .own C0)], nks := [1] }))] [1, 2, 3] [4, 9] 10 (st' := ⟨mkT 56 [(1, .s 4 0 1104 1104), (2, .p 9 0), (3, .ex (.int .i64 0))], [(4, .own Z), (9, .own C0)], 10⟩) (obs := [Ob.call (fun g => List.lookup g []) 18 [.s 4 0 1104 1104] [(4, .own Z)] (useR [(0, 4, 0)] 9 { val := .tup [.p 1 0, .ex (.int .i64 0)], upd := [(1, .own C0)], nks := [1] })]) (by kernel_rfl) (by kernel_rfl) ⟨(CallOK.at0 [(0, 4, 0)] 9 (c1 ) (.cons (.vs rfl (by first | omega | (simp; done) | (simp; omega))) .nil) (.cons rfl rfl ⟨_, rfl, (by exact cov_all _)⟩ .nil) (by kernel_rfl)), trivial⟩ ?_
  refine AG.rk 1 [1, 2, 3] [4, 9] 10 (todo' := [.code (sub (codeOf Try.f23) [1, 1, 1, 0]), .code (sub (codeOf Try.f23) [1, 1, 1, 1])]) (st' := ⟨mkT 56 [(1, .s 4 0 1104 1104), (2, .p 9 0), (3, .ex (.int .i64 0))], [(4, .own Z), (9, .own C0)], 10⟩) (by kernel_rfl) (by kernel_rfl) ?_
  refine AG.gk [4, 6, 8] [] [1, 2, 3] [4, 9] 10 (st' := ⟨mkT 56 [(1, .s 4 0 1104 1104), (2, .p 9 0), (3, .ex (.int .i64 0))], [(4, .own (putAt (putAt (putAt Z 0 (Value.cells (Value.int .u8 1)).toList) 16 (Value.cells (Value.int .u8 1)).toList) 32 (Value.cells (Value.int .u8 1)).toList)), (9, .own C0)], 10⟩) (obs := [Ob.le 1 (List.length Z), Ob.le 1 1, Ob.le 1 1, Ob.one [Value.int .u8 1], Ob.le 17 (List.length (putAt Z 0 (Value.cells (Value.int .u8 1)).toList)), Ob.le 1 1, Ob.le 1 1, Ob.one [Value.int .u8 1], Ob.le 33 (List.length (putAt (putAt Z 0 (Value.cells (Value.int .u8 1)).toList) 16 (Value.cells (Value.int .u8 1)).toList)), Ob.le 1 1, Ob.le 1 1, Ob.one [Value.int .u8 1]]) (by kernel_rfl) (by kernel_rfl) ⟨(by (simp only [Ob.holds]; omega)), (Ob.holds_of_dec (by kernel_rfl)), (Ob.holds_of_dec (by kernel_rfl)), (Ob.holds_of_dec (by kernel_rfl)), (by (simp only [Ob.holds]; omega)), (Ob.holds_of_dec (by kernel_rfl)), (Ob.holds_of_dec (by kernel_rfl)), (Ob.holds_of_dec (by kernel_rfl)), (by (simp only [Ob.holds]; omega)), (Ob.holds_of_dec (by kernel_rfl)), (Ob.holds_of_dec (by kernel_rfl)), (Ob.holds_of_dec (by kernel_rfl)), trivial⟩ ?_
  refine AG.rk 1 [1, 2, 3] [4, 9] 10 (todo' := [.code (sub (codeOf Try.f23) [1, 1, 1, 1, 0]), .code (sub (codeOf Try.f23) [1, 1, 1, 1, 1])]) (st' := ⟨mkT 56 [(1, .s 4 0 1104 1104), (2, .p 9 0), (3, .ex (.int .i64 0))], [(4, .own (putAt (putAt (putAt Z 0 (Value.cells (Value.int .u8 1)).toList) 16 (Value.cells (Value.int .u8 1)).toList) 32 (Value.cells (Value.int .u8 1)).toList)), (9, .own C0)], 10⟩) (by kernel_rfl) (by kernel_rfl) ?_
  refine AG.gk [] [(1, useR [(0, 4, 0)] 14 ({ val := .tup [.p 1 0, .ex (.int .i64 0)], upd := [(1, .own C1)], nks := [1] }))] [2, 3, 4, 5] [9, 14] 15 (st' := ⟨mkT 56 [(2, .p 9 0), (3, .ex (.int .i64 0)), (4, .p 14 0), (5, .ex (.int .i64 0))], [(9, .own C0), (14, .own C1)], 15⟩) (obs := [Ob.call (fun g => List.lookup g []) 18 [.s 4 0 1104 1104] [(4, .own (putAt (putAt (putAt Z 0 (Value.cells (Value.int .u8 1)).toList) 16 (Value.cells (Value.int .u8 1)).toList) 32 (Value.cells (Value.int .u8 1)).toList))] (useR [(0, 4, 0)] 14 { val := .tup [.p 1 0, .ex (.int .i64 0)], upd := [(1, .own C1)], nks := [1] })]) (by kernel_rfl) (by kernel_rfl) ⟨(CallOK.at0 [(0, 4, 0)] 14 (c3 ) (.cons (.vs rfl (by first | omega | (simp; done) | (simp; omega))) .nil) (.cons rfl rfl ⟨_, rfl, (by exact cov_all _)⟩ .nil) (by kernel_rfl)), trivial⟩ ?_
  refine AG.rk 1 [2, 3, 4, 5] [9, 14] 15 (todo' := [.code (sub (codeOf Try.f23) [1, 1, 1, 1, 1, 0]), .code (sub (codeOf Try.f23) [1, 1, 1, 1, 1, 1])]) (st' := ⟨mkT 56 [(2, .p 9 0), (3, .ex (.int .i64 0)), (4, .p 14 0), (5, .ex (.int .i64 0))], [(9, .own C0), (14, .own C1)], 15⟩) (by kernel_rfl) (by kernel_rfl) ?_
  refine AG.gk [] [(17, useR [(0, 9, 0), (2, 79, 0)] 83 ({ val := .ex (.agg #[Value.int .u64 0, Value.int .u64 0]) })), (23, useR [(0, 14, 0)] 107 ({ val := .ex (.agg #[Value.int .u64 8, Value.int .u64 0]) })), (29, useR [(0, 14, 0)] 131 ({ val := .ex (.agg #[Value.int .u64 0, Value.int .u64 0]) }))] [0] [] 0 (st' := ⟨mkT 56 [(0, .ex (.bool true))], [], 0⟩) (obs := [Ob.call (fun g => List.lookup g []) 20 [.p 9 0, .ex (.slice none 0 0), .s 79 0 1 1] [(9, .own C0), (79, .own [Value.int .u8 1])] (useR [(0, 9, 0), (2, 79, 0)] 83 { val := .ex (.agg #[Value.int .u64 0, Value.int .u64 0]) }), Ob.call (fun g => List.lookup g []) 21 [.p 14 0, .ex (.slice none 0 0), .ex (.int .i64 1)] [(14, .own C1)] (useR [(0, 14, 0)] 107 { val := .ex (.agg #[Value.int .u64 8, Value.int .u64 0]) }), Ob.call (fun g => List.lookup g []) 22 [.p 14 0, .ex (.slice none 0 0)] [(14, .own C1)] (useR [(0, 14, 0)] 131 { val := .ex (.agg #[Value.int .u64 0, Value.int .u64 0]) })]) (by kernel_rfl) (by kernel_rfl) ⟨(CallOK.at0 [(0, 9, 0), (2, 79, 0)] 83 (c2 ) (.cons (.p rfl) (.cons (.vx) (.cons (.vs rfl (by first | omega | (simp; done) | (simp; omega))) .nil))) (.cons rfl rfl ⟨_, rfl, (by exact cov_all _)⟩ (.away rfl (.cons rfl rfl ⟨_, rfl, (by exact cov_all _)⟩ .nil))) (by kernel_rfl)), (CallOK.at0 [(0, 14, 0)] 107 (c4 ) (.cons (.p rfl) (.cons (.vx) (.cons (.ex _) .nil))) (.cons rfl rfl ⟨_, rfl, (by exact cov_all _)⟩ (.away rfl .nil)) (by kernel_rfl)), (CallOK.at0 [(0, 14, 0)] 131 (c5 ) (.cons (.p rfl) (.cons (.vx) .nil)) (.cons rfl rfl ⟨_, rfl, (by exact cov_all _)⟩ (.away rfl .nil)) (by kernel_rfl)), trivial⟩ ?_
  refine AG.fin ([.ex (.bool true)]) Go.Proofs.Try.f23 fn23 (.inr ⟨_, rfl⟩) (obs := []) (by kernel_rfl) trivial (by kernel_rfl) trivial (by kernel_rfl)
end Go.Proofs.Ytddnfcgbfpbagaa.Ab
