/- Own: hctr's ciphers (no statement is proved here). -/
import Derived.Test.YtdfbcdgneboilaaDoorH2
import Derived.KernelRfl
namespace Go.Proofs.YtdfbcdgneboilaaDoor.Ab
open Go.Proofs Go.RowKit
set_option linter.unusedSimpArgs false
set_option linter.unusedVariables false
set_option maxRecDepth 4000
-- AGLIM=12
theorem enc_ok {tb : List Value} (ht : tb = tabT) (r : Nat) (h0 : 0 < r) (h1 : r < 15) (F : Nat → Int) (hF : B8 F) (h l : E) (t m : List Int) (ht8 : All8 t) (hm8 : All8 m) (htl : t.length ≤ 1000) (h16 : 16 ≤ m.length) (hml : m.length ≤ 1000) :
    CallOK Tryd.prog (fun _ => none) 12 [.p 0 0, .sv 3 0 t.length, .sv 4 0 m.length] [(0, .mixv (ciV 1 (byt h) (byt l))), (1, .mix (keyV 2 r F)), (2, .own tb), (3, .view (t.map (Value.int .u8))), (4, .view (m.map (Value.int .u8)))]
      { val := .tup [.o 5 0 (turnE (encE F r) F r h l t m).length, .ex (.int .i64 0)], upd := [(5, .row ((turnE (encE F r) F r h l t m).map (Value.int .u8))), (1, .mix (keyV 2 r F)), (2, .own tb)], wks := [1, 2], nks := [5] } := by
  have c1 := turned_enc ht r h0 h1 F hF h l t m ht8 hm8 htl h16 hml
  generalize turnE (encE F r) F r h l t m = O at *
  generalize byt h = f1 at *
  generalize byt l = f2 at *
  refine CallOK.from0 hmix Tryd.f12 5 fn12 (by kernel_rfl) (by kernel_rfl) (fun w ρ h1 h2 => ?_)
  refine AG.rs 4 [([], []), ([], [(4, useR [(0, 0, 0), (3, 3, 0), (4, 4, 0), (5, 5, 0), (1, 1, 0), (2, 2, 0)] 33 ({ val := .tup [.o 6 0 (List.length O), .ex (.int .i64 0)], upd := [(6, .row (List.map (Value.int .u8) O)), (1, .mix (keyV 2 r F)), (2, .own tb)], nks := [6], wks := [1, 2] }))])] [6, 7] [0, 1, 2, 3, 4, 33] 34 (todo' := [.code (sub (codeOf Tryd.f12) [1, 1])]) (st' := ⟨mkT 15 [(6, .o 33 0 (List.length O)), (7, .ex (.int .i64 0))], [(0, .mixv (.p 1 0 :: .ex (.int .u8 (f1 0)) :: .ex (.int .u8 (f1 1)) :: .ex (.int .u8 (f1 2)) :: .ex (.int .u8 (f1 3)) :: .ex (.int .u8 (f1 4)) :: .ex (.int .u8 (f1 5)) :: .ex (.int .u8 (f1 6)) :: .ex (.int .u8 (f1 7)) :: .ex (.int .u8 (f1 8)) :: .ex (.int .u8 (f1 9)) :: .ex (.int .u8 (f1 10)) :: .ex (.int .u8 (f1 11)) :: .ex (.int .u8 (f1 12)) :: ([.ex (.int .u8 (f1 13)), .ex (.int .u8 (f1 14)), .ex (.int .u8 (f1 15))] ++ List.map .ex (ar8 16 f2)))), (1, .mix ([.p 2 0, .ex (.int .i64 (↑r : Int))] ++ List.map .ex (ar8 240 F))), (2, .own tb), (3, .view (List.map (Value.int .u8) t)), (4, .view (List.map (Value.int .u8) m)), (33, .row (List.map (Value.int .u8) O))], 34⟩) (obs := [Ob.call (fun g => List.lookup g []) 26 [.p 0 0, .sv 3 0 (List.length t), .sv 4 0 (List.length m), .f 27 [5]] [(0, .mixv (.p 1 0 :: .ex (.int .u8 (f1 0)) :: .ex (.int .u8 (f1 1)) :: .ex (.int .u8 (f1 2)) :: .ex (.int .u8 (f1 3)) :: .ex (.int .u8 (f1 4)) :: .ex (.int .u8 (f1 5)) :: .ex (.int .u8 (f1 6)) :: .ex (.int .u8 (f1 7)) :: .ex (.int .u8 (f1 8)) :: .ex (.int .u8 (f1 9)) :: .ex (.int .u8 (f1 10)) :: .ex (.int .u8 (f1 11)) :: .ex (.int .u8 (f1 12)) :: ([.ex (.int .u8 (f1 13)), .ex (.int .u8 (f1 14)), .ex (.int .u8 (f1 15))] ++ List.map .ex (ar8 16 f2)))), (3, .view (List.map (Value.int .u8) t)), (4, .view (List.map (Value.int .u8) m)), (5, .mix [.p 0 0]), (1, .mix (.p 2 0 :: .ex (.int .i64 (↑r : Int)) :: List.map .ex (ar8 240 F))), (2, .own tb)] (useR [(0, 0, 0), (3, 3, 0), (4, 4, 0), (5, 5, 0), (1, 1, 0), (2, 2, 0)] 33 { val := .tup [.o 6 0 (List.length O), .ex (.int .i64 0)], upd := [(6, .row (List.map (Value.int .u8) O)), (1, .mix (keyV 2 r F)), (2, .own tb)], nks := [6], wks := [1, 2] })]) (by kernel_rfl) (by kernel_rfl) ⟨(CallOK.at0 [(0, 0, 0), (3, 3, 0), (4, 4, 0), (5, 5, 0), (1, 1, 0), (2, 2, 0)] 33 (c1 ) (.cons (.p rfl) (.cons (.vv rfl) (.cons (.vv rfl) (.cons (.f rfl) .nil)))) (.cons rfl rfl ⟨_, .inr rfl, rfl, (.cons (.p rfl) (FitL.exs _)), (by simp)⟩ (.cons rfl rfl ⟨_, rfl, rfl, (.cons (.p rfl) (.cons (.ex _) (FitL.exs _)))⟩ (.cons rfl rfl ⟨rfl, rfl⟩ (.cons rfl rfl ⟨_, rfl, (by exact cov_all _)⟩ (.cons rfl rfl ⟨_, rfl, (by exact cov_all _)⟩ (.cons rfl rfl ⟨_, .inl rfl, rfl, (.cons (.p rfl) .nil), (by simp)⟩ .nil)))))) (by kernel_rfl)), trivial⟩ ?_
  refine AG.ren 33 5 (st' := ⟨mkT 15 [(6, .o 5 0 (List.length O)), (7, .ex (.int .i64 0))], [(0, .mixv (.p 1 0 :: .ex (.int .u8 (f1 0)) :: .ex (.int .u8 (f1 1)) :: .ex (.int .u8 (f1 2)) :: .ex (.int .u8 (f1 3)) :: .ex (.int .u8 (f1 4)) :: .ex (.int .u8 (f1 5)) :: .ex (.int .u8 (f1 6)) :: .ex (.int .u8 (f1 7)) :: .ex (.int .u8 (f1 8)) :: .ex (.int .u8 (f1 9)) :: .ex (.int .u8 (f1 10)) :: .ex (.int .u8 (f1 11)) :: .ex (.int .u8 (f1 12)) :: ([.ex (.int .u8 (f1 13)), .ex (.int .u8 (f1 14)), .ex (.int .u8 (f1 15))] ++ List.map .ex (ar8 16 f2)))), (1, .mix ([.p 2 0, .ex (.int .i64 (↑r : Int))] ++ List.map .ex (ar8 240 F))), (2, .own tb), (3, .view (List.map (Value.int .u8) t)), (4, .view (List.map (Value.int .u8) m)), (5, .row (List.map (Value.int .u8) O))], 34⟩) (by kernel_rfl) (by kernel_rfl) ?_
  refine AG.fin ([.o 5 0 (List.length O), .ex (.int .i64 0)]) Go.Proofs.Tryd.f12 fn12 (.inr ⟨_, rfl⟩) (obs := []) (by kernel_rfl) trivial (by kernel_rfl) ⟨(by kernel_rfl), (by kernel_rfl), (by kernel_rfl), trivial⟩ (by kernel_rfl)
theorem dec_ok {tb : List Value} (ht : tb = tabT) (r : Nat) (h0 : 0 < r) (h1 : r < 15) (F : Nat → Int) (hF : B8 F) (h l : E) (t m : List Int) (ht8 : All8 t) (hm8 : All8 m) (htl : t.length ≤ 1000) (h16 : 16 ≤ m.length) (hml : m.length ≤ 1000) :
    CallOK Tryd.prog (fun _ => none) 13 [.p 0 0, .sv 3 0 t.length, .sv 4 0 m.length] [(0, .mixv (ciV 1 (byt h) (byt l))), (1, .mix (keyV 2 r F)), (2, .own tb), (3, .view (t.map (Value.int .u8))), (4, .view (m.map (Value.int .u8)))]
      { val := .tup [.o 5 0 (turnE (decE F r) F r h l t m).length, .ex (.int .i64 0)], upd := [(5, .row ((turnE (decE F r) F r h l t m).map (Value.int .u8))), (1, .mix (keyV 2 r F)), (2, .own tb)], wks := [1, 2], nks := [5] } := by
  have c1 := turned_dec ht r h0 h1 F hF h l t m ht8 hm8 htl h16 hml
  generalize turnE (decE F r) F r h l t m = O at *
  generalize byt h = f1 at *
  generalize byt l = f2 at *
  refine CallOK.from0 hmix Tryd.f13 5 fn13 (by kernel_rfl) (by kernel_rfl) (fun w ρ h1 h2 => ?_)
  refine AG.rs 4 [([], []), ([], [(4, useR [(0, 0, 0), (3, 3, 0), (4, 4, 0), (5, 5, 0), (1, 1, 0), (2, 2, 0)] 33 ({ val := .tup [.o 6 0 (List.length O), .ex (.int .i64 0)], upd := [(6, .row (List.map (Value.int .u8) O)), (1, .mix (keyV 2 r F)), (2, .own tb)], nks := [6], wks := [1, 2] }))])] [6, 7] [0, 1, 2, 3, 4, 33] 34 (todo' := [.code (sub (codeOf Tryd.f13) [1, 1])]) (st' := ⟨mkT 15 [(6, .o 33 0 (List.length O)), (7, .ex (.int .i64 0))], [(0, .mixv (.p 1 0 :: .ex (.int .u8 (f1 0)) :: .ex (.int .u8 (f1 1)) :: .ex (.int .u8 (f1 2)) :: .ex (.int .u8 (f1 3)) :: .ex (.int .u8 (f1 4)) :: .ex (.int .u8 (f1 5)) :: .ex (.int .u8 (f1 6)) :: .ex (.int .u8 (f1 7)) :: .ex (.int .u8 (f1 8)) :: .ex (.int .u8 (f1 9)) :: .ex (.int .u8 (f1 10)) :: .ex (.int .u8 (f1 11)) :: .ex (.int .u8 (f1 12)) :: ([.ex (.int .u8 (f1 13)), .ex (.int .u8 (f1 14)), .ex (.int .u8 (f1 15))] ++ List.map .ex (ar8 16 f2)))), (1, .mix ([.p 2 0, .ex (.int .i64 (↑r : Int))] ++ List.map .ex (ar8 240 F))), (2, .own tb), (3, .view (List.map (Value.int .u8) t)), (4, .view (List.map (Value.int .u8) m)), (33, .row (List.map (Value.int .u8) O))], 34⟩) (obs := [Ob.call (fun g => List.lookup g []) 26 [.p 0 0, .sv 3 0 (List.length t), .sv 4 0 (List.length m), .f 28 [5]] [(0, .mixv (.p 1 0 :: .ex (.int .u8 (f1 0)) :: .ex (.int .u8 (f1 1)) :: .ex (.int .u8 (f1 2)) :: .ex (.int .u8 (f1 3)) :: .ex (.int .u8 (f1 4)) :: .ex (.int .u8 (f1 5)) :: .ex (.int .u8 (f1 6)) :: .ex (.int .u8 (f1 7)) :: .ex (.int .u8 (f1 8)) :: .ex (.int .u8 (f1 9)) :: .ex (.int .u8 (f1 10)) :: .ex (.int .u8 (f1 11)) :: .ex (.int .u8 (f1 12)) :: ([.ex (.int .u8 (f1 13)), .ex (.int .u8 (f1 14)), .ex (.int .u8 (f1 15))] ++ List.map .ex (ar8 16 f2)))), (3, .view (List.map (Value.int .u8) t)), (4, .view (List.map (Value.int .u8) m)), (5, .mix [.p 0 0]), (1, .mix (.p 2 0 :: .ex (.int .i64 (↑r : Int)) :: List.map .ex (ar8 240 F))), (2, .own tb)] (useR [(0, 0, 0), (3, 3, 0), (4, 4, 0), (5, 5, 0), (1, 1, 0), (2, 2, 0)] 33 { val := .tup [.o 6 0 (List.length O), .ex (.int .i64 0)], upd := [(6, .row (List.map (Value.int .u8) O)), (1, .mix (keyV 2 r F)), (2, .own tb)], nks := [6], wks := [1, 2] })]) (by kernel_rfl) (by kernel_rfl) ⟨(CallOK.at0 [(0, 0, 0), (3, 3, 0), (4, 4, 0), (5, 5, 0), (1, 1, 0), (2, 2, 0)] 33 (c1 ) (.cons (.p rfl) (.cons (.vv rfl) (.cons (.vv rfl) (.cons (.f rfl) .nil)))) (.cons rfl rfl ⟨_, .inr rfl, rfl, (.cons (.p rfl) (FitL.exs _)), (by simp)⟩ (.cons rfl rfl ⟨_, rfl, rfl, (.cons (.p rfl) (.cons (.ex _) (FitL.exs _)))⟩ (.cons rfl rfl ⟨rfl, rfl⟩ (.cons rfl rfl ⟨_, rfl, (by exact cov_all _)⟩ (.cons rfl rfl ⟨_, rfl, (by exact cov_all _)⟩ (.cons rfl rfl ⟨_, .inl rfl, rfl, (.cons (.p rfl) .nil), (by simp)⟩ .nil)))))) (by kernel_rfl)), trivial⟩ ?_
  refine AG.ren 33 5 (st' := ⟨mkT 15 [(6, .o 5 0 (List.length O)), (7, .ex (.int .i64 0))], [(0, .mixv (.p 1 0 :: .ex (.int .u8 (f1 0)) :: .ex (.int .u8 (f1 1)) :: .ex (.int .u8 (f1 2)) :: .ex (.int .u8 (f1 3)) :: .ex (.int .u8 (f1 4)) :: .ex (.int .u8 (f1 5)) :: .ex (.int .u8 (f1 6)) :: .ex (.int .u8 (f1 7)) :: .ex (.int .u8 (f1 8)) :: .ex (.int .u8 (f1 9)) :: .ex (.int .u8 (f1 10)) :: .ex (.int .u8 (f1 11)) :: .ex (.int .u8 (f1 12)) :: ([.ex (.int .u8 (f1 13)), .ex (.int .u8 (f1 14)), .ex (.int .u8 (f1 15))] ++ List.map .ex (ar8 16 f2)))), (1, .mix ([.p 2 0, .ex (.int .i64 (↑r : Int))] ++ List.map .ex (ar8 240 F))), (2, .own tb), (3, .view (List.map (Value.int .u8) t)), (4, .view (List.map (Value.int .u8) m)), (5, .row (List.map (Value.int .u8) O))], 34⟩) (by kernel_rfl) (by kernel_rfl) ?_
  refine AG.fin ([.o 5 0 (List.length O), .ex (.int .i64 0)]) Go.Proofs.Tryd.f13 fn13 (.inr ⟨_, rfl⟩) (obs := []) (by kernel_rfl) trivial (by kernel_rfl) ⟨(by kernel_rfl), (by kernel_rfl), (by kernel_rfl), trivial⟩ (by kernel_rfl)
/-! back and forth -/
theorem decB_congr {F f f' : Nat → Nat} (r : Nat) (h : ∀ i, i < 16 → f i = f' i) (i : Nat) (hi : i < 16) : decB F r f i = decB F r f' i := by
  have hU : ∀ j i, i < 16 → decU F r f j i = decU F r f' j i := fun j => by
    induction j with
    | zero => exact unl_congr h fun _ _ => rfl
    | succ j ih => exact unr_congr ih fun _ _ => rfl
  unfold decB
  rw [hU (r - 1) i hi]
theorem decE_encE {F : Nat → Int} (hF : B8 F) (r : Nat) (u : E) : decE F r (encE F r u) = u := byt_inj fun j hj => by
  have e := nI_decE hF r (encE F r u) j hj
  rw [decB_congr r (fun i hi => nI_encE hF r u i hi) j hj, dec_enc (byt_nI hF) (byt_nI (b8_byt u)) r j hj] at e
  have h1 := r8_byt u j
  have h2 := r8_byt (decE F r (encE F r u)) j
  unfold R8 at h1 h2; unfold nI at e; omega
theorem encE_decE {F : Nat → Int} (hF : B8 F) (r : Nat) (u : E) : encE F r (decE F r u) = u := byt_inj fun j hj => by
  have e := nI_encE hF r (decE F r u) j hj
  rw [encB_congr r (fun i hi => nI_decE hF r u i hi) j hj, enc_dec (byt_nI hF) (byt_nI (b8_byt u)) r j hj] at e
  have h1 := r8_byt u j
  have h2 := r8_byt (encE F r (decE F r u)) j
  unfold R8 at h1 h2; unfold nI at e; omega
theorem el_same {a b : Nat → Int} (h : ∀ j, j < 16 → a j = b j) : el a = el b := by
  unfold el
  rw [h 0 (by decide), h 1 (by decide), h 2 (by decide), h 3 (by decide), h 4 (by decide), h 5 (by decide), h 6 (by decide), h 7 (by decide), h 8 (by decide), h 9 (by decide), h 10 (by decide), h 11 (by decide), h 12 (by decide), h 13 (by decide), h 14 (by decide), h 15 (by decide)]
theorem rng_bAt (bs : List Int) : (List.range bs.length).map (fun j : Nat => bAt bs (j : Int)) = bs := by
  apply List.ext_getElem?
  intro j
  by_cases hj : j < bs.length
  · rw [List.getElem?_map, List.getElem?_range hj]
    show some (bAt bs (j : Int)) = _
    rw [bAt_in bs _ (by omega) (by omega), Int.toNat_natCast, List.getD_eq_getElem?_getD, List.getElem?_eq_getElem hj]; rfl
  · rw [List.getElem?_eq_none (by simp; omega), List.getElem?_eq_none (by omega)]
theorem all8_strE (F : Nat → Int) (r : Nat) (s : E) (bs : List Int) : All8 (strE F r s bs) := fun x hx => by
  unfold strE at hx
  obtain ⟨j, _, rfl⟩ := List.mem_map.1 hx
  exact r8_xor8 _ _
theorem strE_twice {F : Nat → Int} (hF : B8 F) (r : Nat) (s : E) (bs : List Int) (h8 : All8 bs) : strE F r s (strE F r s bs) = bs := by
  conv => rhs; rw [← rng_bAt bs]
  unfold strE
  rw [List.length_map, List.length_range]
  refine List.map_congr_left fun j hj => ?_
  have hj : j < bs.length := by simpa using hj
  unfold xcb
  rw [bAt_rng _ _ _ hj]
  exact xor8_back _ _ (h8.at _) (b8_enc hF (b8_xr2 _ _) r _)
/-- Sixteen bytes, and what lies behind them. -/
theorem blkL_app (u : E) (S : List Int) : blkL ((List.range 16).map (byt u) ++ S) = u := by
  unfold blkL
  rw [el_same (b := byt u) fun j hj => ?_, el_byt]
  rw [bAt_in _ _ (by omega) (by simp; omega), Int.toNat_natCast, List.getD_eq_getElem?_getD, List.getElem?_append_left (by simp; omega), List.getElem?_map, List.getElem?_range hj]; rfl
theorem drop_app (u : E) (S : List Int) : ((List.range 16).map (byt u) ++ S).drop 16 = S := by
  rw [List.drop_append_of_le_length (by simp), List.drop_of_length_le (by simp), List.nil_append]
theorem app_blkL (m : List Int) (h8 : All8 m) (h16 : 16 ≤ m.length) : (List.range 16).map (byt (blkL m)) ++ m.drop 16 = m := by
  conv => rhs; rw [← List.take_append_drop 16 m]
  congr 1
  rw [← rng_bAt (m.take 16), List.length_take, Nat.min_eq_left h16]
  refine List.map_congr_left fun j hj => ?_
  have hj : j < 16 := by simpa using hj
  unfold blkL
  rw [byt_el _ (fun i _ => h8.at _) j hj, bAt_in m _ (by omega) (by omega), bAt_in _ _ (by omega) (by rw [List.length_take]; omega), List.getD_eq_getElem?_getD, List.getD_eq_getElem?_getD, List.getElem?_take, if_pos (by omega)]
theorem turn_back (cr dr : E → E) (hcd : ∀ u, dr (cr u) = u) {F : Nat → Int} (hF : B8 F) (r : Nat) (h l : E) (t m : List Int) (h8 : All8 m) (h16 : 16 ≤ m.length) : turnE dr F r h l t (turnE cr F r h l t m) = m := by
  unfold turnE
  rw [blkL_app, drop_app]
  generalize hA : blkL m ^^^ hshE h t (m.drop 16) = A
  generalize hS : strE F r ((A ^^^ cr A) ^^^ l) (m.drop 16) = S
  rw [BitVec.xor_assoc, BitVec.xor_self, BitVec.xor_zero, hcd, BitVec.xor_comm (cr A) A, ← hS, strE_twice hF r _ _ (all8_drop h8 16), ← hA, BitVec.xor_assoc, BitVec.xor_self, BitVec.xor_zero]
  exact app_blkL m h8 h16
theorem len_turnE (cr : E → E) (F : Nat → Int) (r : Nat) (h l : E) (t m : List Int) (h16 : 16 ≤ m.length) : (turnE cr F r h l t m).length = m.length := by
  unfold turnE
  rw [List.length_append, len_strE]; simp; omega
theorem all8_turnE (cr : E → E) (F : Nat → Int) (r : Nat) (h l : E) (t m : List Int) : All8 (turnE cr F r h l t m) := fun x hx => by
  unfold turnE at hx
  rcases List.mem_append.1 hx with hx | hx
  · obtain ⟨j, _, rfl⟩ := List.mem_map.1 hx
    exact r8_byt _ _
  · exact all8_strE _ _ _ _ x hx
end Go.Proofs.YtdfbcdgneboilaaDoor.Ab
