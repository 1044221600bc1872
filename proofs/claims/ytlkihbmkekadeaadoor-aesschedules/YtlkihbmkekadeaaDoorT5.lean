/- Own: layer 13's example (no statement is proved here). -/
import Derived.Test.YtlkihbmkekadeaaDoorT3
import Derived.KernelRfl
namespace Go.Proofs.YtlkihbmkekadeaaDoor.Ab
open Go.Proofs
set_option linter.unusedSimpArgs false
set_option linter.unusedVariables false
set_option maxRecDepth 4000
-- AGLIM=3
theorem kI_zero : kI ((List.range 16).map fun _ => 0) = cI (eb (fun _ => 0) 4 40) := by
  have e : lf (u8L ((List.range 16).map fun _ => 0)) = fun _ => 0 := funext fun i => by
    unfold lf
    by_cases h : i < 16
    · rw [show u8L ((List.range 16).map fun _ => (0 : Int)) = List.replicate 16 0 by rfl, List.getD_eq_getElem?_getD, List.getElem?_replicate, if_pos h]; rfl
    · rw [List.getD_eq_getElem?_getD, List.getElem?_eq_none (by rw [u8L_len]; simp; omega)]; rfl
  unfold kI
  rw [e]; rfl
theorem nI_cI (f : Nat → Nat) : nI (cI f) = f := funext fun i => by unfold nI cI; simp
theorem enc_zero (s : Nat → Int) (hs : ∀ i, i < 16 → s i = 0) (j : Nat) (hj : j < 16) : encI (kI ((List.range 16).map fun _ => 0)) 10 s j = ((lst (zAt 9) (fun x => zK.getD (16 * 10 + x) 0) j : Nat) : Int) := by
  unfold encI
  show ((encB _ _ _ j : Nat) : Int) = _
  rw [kI_zero, nI_cI, ← zero_enc j hj]
  rw [encB_congr 10 (f := nI s) (f' := fun _ => 0) (fun i hi => by unfold nI; rw [hs i hi]; rfl) j hj]
theorem enc_zero_at (s : Nat → Int) (hs : ∀ i, i < 16 → s i = 0) : encI (kI ((List.range 16).map fun _ => 0)) 10 s 0 = 102 ∧ encI (kI ((List.range 16).map fun _ => 0)) 10 s 1 = 233 ∧ encI (kI ((List.range 16).map fun _ => 0)) 10 s 15 = 46 := by
  rw [enc_zero s hs 0 (by decide), enc_zero s hs 1 (by decide), enc_zero s hs 15 (by decide), zEnd.1, zEnd.2.1, zEnd.2.2]
  exact ⟨rfl, rfl, rfl⟩
theorem fn33 : Tryd.prog.funcs[33]? = some Tryd.f33 := by kernel_rfl
theorem zk13z {mx um : List Value} (hm : mx = mixL.map (Value.int .u8)) (hu : um = unmL.map (Value.int .u8)) {tb : List Value} (ht : tb = tabC) : CallOK Tryd.prog (fun g => [(0, 0), (1, 1)].lookup g) 32 [.ex (zV (fun _ => 0) 0)] [(0, .view mx), (1, .view um)]
    { val := .p 2 0, upd := [(2, .mix (.p 3 0 :: .ex (.int .i64 10) :: (ar8 240 (kI ((List.range 16).map fun _ => 0))).map .ex)), (3, .own tb)], nks := [2, 3] } := by
  have cb := zb13_0 (fun _ => 0) 0 rfl
  have ce := expandr_ok ht 16 (fun _ => 0) (fun i hi => ⟨by decide, by decide⟩) (.inl rfl)
  generalize kI ((List.range 16).map fun _ => 0) = F at *
  obtain ⟨bx, hx⟩ : ∃ bx, bx = bxC := ⟨_, rfl⟩
  have cm := make_ok hx
  have cn := new_ok hm hu hx ht
  refine CallOK.from hmix Tryd.f32 2 fn32 (by kernel_rfl) (by kernel_rfl) (fun w ρ h1 h2 => ?_)
  refine AG.rs 6 [([], []), ([], [(0, useR [] 10 ({ val := .p 0 0, upd := [(0, .own bx)], nks := [0] })), (1, useR [(0, 10, 0), (1, 0, 0), (2, 1, 0)] 14 ({ val := .p 3 0, upd := [(3, .own tb)], nks := [3] })), (3, useR [] 22 ({ val := .o 0 0 16, upd := [(0, .row (ar8 16 fun x => 0))], nks := [0] })), (4, useR [(0, 14, 0), (1, 22, 0)] 26 ({ val := .tup [.p 2 0, .ex (.int .i64 0)], upd := [(2, .mix (.p 0 0 :: .ex (.int .i64 (↑(nrnd 16) : Int)) :: List.map .ex (ar8 240 F)))], nks := [2] }))]), ([], [])] [2] [0, 1, 14, 26] 27 (todo' := [.code (sub (codeOf Tryd.f32) [1, 1, 1])]) (st' := ⟨mkT 14 [(2, .p 26 0)], [(0, .view mx), (1, .view um), (14, .own tb), (26, .mix ([.p 14 0, .ex (.int .i64 10)] ++ List.map .ex (ar8 240 F)))], 27⟩) (obs := [Ob.call (fun g => List.lookup g [(0, 0), (1, 1)]) 39 [] [] (useR [] 10 { val := .p 0 0, upd := [(0, .own bx)], nks := [0] }), Ob.call (fun g => List.lookup g [(0, 0), (1, 1)]) 38 [.p 10 0] [(10, .own bx), (0, .view mx), (1, .view um)] (useR [(0, 10, 0), (1, 0, 0), (2, 1, 0)] 14 { val := .p 3 0, upd := [(3, .own tb)], nks := [3] }), Ob.call (fun g => List.lookup g [(0, 0), (1, 1)]) 30 [.ex (.agg { toList := List.replicate 33 (Value.int .u8 0) })] [] (useR [] 22 { val := .o 0 0 16, upd := [(0, .row (ar8 16 fun x => 0))], nks := [0] }), Ob.call (fun g => List.lookup g [(0, 0), (1, 1)]) 14 [.p 14 0, .o 22 0 16] [(14, .own tb), (22, .row (ar8 16 fun x => 0))] (useR [(0, 14, 0), (1, 22, 0)] 26 { val := .tup [.p 2 0, .ex (.int .i64 0)], upd := [(2, .mix (.p 0 0 :: .ex (.int .i64 (↑(nrnd 16) : Int)) :: List.map .ex (ar8 240 F)))], nks := [2] })]) (by kernel_rfl) (by kernel_rfl) ⟨(CallOK.at0 [] 10 (cm ) .nil .nil (by kernel_rfl)), (CallOK.at [(0, 10, 0), (1, 0, 0), (2, 1, 0)] 14 (cn ) (.cons (.p rfl) .nil) (.cons rfl rfl ⟨rfl, rfl⟩ (.cons rfl rfl ⟨_, rfl, (by exact cov_all _)⟩ (.cons rfl rfl ⟨_, rfl, (by exact cov_all _)⟩ .nil))) (by kernel_rfl)), (CallOK.at0 [] 22 (cb ) (.cons (.ex _) .nil) .nil (by kernel_rfl)), (CallOK.at0 [(0, 14, 0), (1, 22, 0)] 26 (ce ) (.cons (.p rfl) (.cons (.vo rfl) .nil)) (.cons rfl rfl ⟨rfl, rfl⟩ (.cons rfl rfl ⟨_, rfl, (by exact cov_all _)⟩ .nil)) (by kernel_rfl)), trivial⟩ ?_
  refine AG.ren 26 2 (st' := ⟨mkT 14 [(2, .p 2 0)], [(0, .view mx), (1, .view um), (14, .own tb), (2, .mix ([.p 14 0, .ex (.int .i64 10)] ++ List.map .ex (ar8 240 F)))], 27⟩) (by kernel_rfl) (by kernel_rfl) ?_
  refine AG.ren 14 3 (st' := ⟨mkT 14 [(2, .p 2 0)], [(0, .view mx), (1, .view um), (3, .own tb), (2, .mix ([.p 3 0, .ex (.int .i64 10)] ++ List.map .ex (ar8 240 F)))], 27⟩) (by kernel_rfl) (by kernel_rfl) ?_
  refine AG.fin ([.p 2 0]) Go.Proofs.Tryd.f32 fn32 (.inr ⟨_, rfl⟩) (obs := []) (by kernel_rfl) trivial (by kernel_rfl) ⟨(by kernel_rfl), (by kernel_rfl), trivial⟩ (by kernel_rfl)
theorem awake13 {mx um : List Value} (hm : mx = mixL.map (Value.int .u8)) (hu : um = unmL.map (Value.int .u8)) : CallOK Tryd.prog (fun g => [(0, 0), (1, 1)].lookup g) 33 [] [(0, .view mx), (1, .view um)] { val := .ex (.bool true) } := by
  obtain ⟨tb, ht⟩ : ∃ tb, tb = tabC := ⟨_, rfl⟩
  have ck := zk13z hm hu ht
  obtain ⟨s, hs⟩ : ∃ s : Nat → Int, s = fun j => if j = 0 then 1 else 0 := ⟨_, rfl⟩
  have cx := xblock_ok ht 10 (by decide) (by decide) (kI ((List.range 16).map fun _ => 0)) s (b8_kI _) 1
  have hz := enc_zero_at (xr2 s (wbytes 1 0)) (fun i hi => by
    rw [hs]
    exact (by decide +kernel : ∀ i, i < 16 → xr2 (fun j => if j = 0 then 1 else 0) (wbytes 1 0) i = 0) i hi)
  generalize encI (kI ((List.range 16).map fun _ => 0)) 10 (xr2 s (wbytes 1 0)) = E at *
  obtain ⟨z0, z1, z15⟩ := hz
  generalize kI ((List.range 16).map fun _ => 0) = F at *
  have es : (ar8 16 s) = Value.int .u8 1 :: List.replicate 15 (Value.int .u8 0) := by rw [hs]; kernel_rfl
  rw [es] at cx
  refine CallOK.from hmix Tryd.f33 2 fn33 (by kernel_rfl) (by kernel_rfl) (fun w ρ h1 h2 => ?_)
  refine AG.rs 6 [([], []), ([], [(1, useR [(0, 0, 0), (1, 1, 0)] 10 ({ val := .p 2 0, upd := [(2, .mix (.p 3 0 :: .ex (.int .i64 10) :: List.map .ex (ar8 240 F))), (3, .own tb)], nks := [2, 3] })), (3, useR [(0, 10, 0), (1, 11, 0)] 18 ({ val := .ex (.agg (List.toArray (ar8 16 E))), upd := [(0, .mix (.p 1 0 :: .ex (.int .i64 (↑10 : Int)) :: List.map .ex (ar8 240 F))), (1, .own tb)], wks := [0, 1] }))]), ([], [(1, { val := .ex (.int .u8 102) }), (5, { val := .ex (.int .u8 233) }), (10, { val := .ex (.int .u8 46) })])] [0] [0, 1] 2 (todo' := [.code (sub (codeOf Tryd.f33) [1, 1, 1])]) (st' := ⟨mkT 19 [(0, .ex (.bool true))], [(0, .view mx), (1, .view um)], 2⟩) (obs := [Ob.call (fun g => List.lookup g [(0, 0), (1, 1)]) 32 [.ex (.agg { toList := List.replicate 33 (Value.int .u8 0) })] [(0, .view mx), (1, .view um)] (useR [(0, 0, 0), (1, 1, 0)] 10 { val := .p 2 0, upd := [(2, .mix (.p 3 0 :: .ex (.int .i64 10) :: List.map .ex (ar8 240 F))), (3, .own tb)], nks := [2, 3] }), Ob.call (fun g => List.lookup g [(0, 0), (1, 1)]) 31 [.p 10 0, .ex (.agg { toList := Value.int .u8 1 :: List.replicate 15 (Value.int .u8 0) }), .ex (.int .u64 1)] [(10, .mix ([.p 11 0, .ex (.int .i64 10)] ++ List.map .ex (ar8 240 F))), (11, .own tb)] (useR [(0, 10, 0), (1, 11, 0)] 18 { val := .ex (.agg (List.toArray (ar8 16 E))), upd := [(0, .mix (.p 1 0 :: .ex (.int .i64 (↑10 : Int)) :: List.map .ex (ar8 240 F))), (1, .own tb)], wks := [0, 1] }), Ob.eq (.ex (.int .u8 (E 0))) (.ex (.int .u8 102)), Ob.le 1 16, Ob.eq (.ex (.int .u8 (E 1))) (.ex (.int .u8 233)), Ob.le 2 16, Ob.eq (.ex (.int .u8 (E 15))) (.ex (.int .u8 46)), Ob.le 16 16]) (by kernel_rfl) (by kernel_rfl) ⟨(CallOK.at [(0, 0, 0), (1, 1, 0)] 10 (ck ) (.cons (.ex _) .nil) (.cons rfl rfl ⟨_, rfl, (by exact cov_all _)⟩ (.cons rfl rfl ⟨_, rfl, (by exact cov_all _)⟩ .nil)) (by kernel_rfl)), (CallOK.at0 [(0, 10, 0), (1, 11, 0)] 18 (cx ) (.cons (.p rfl) (.cons (.ex _) (.cons (.ex _) .nil))) (.cons rfl rfl ⟨_, rfl, rfl, (.cons (.p rfl) (.cons (.ex _) (FitL.exs _)))⟩ (.cons rfl rfl ⟨rfl, rfl⟩ .nil)) (by kernel_rfl)), (by simp only [Ob.holds, z0]), (Ob.holds_of_dec (by kernel_rfl)), (by simp only [Ob.holds, z1]), (Ob.holds_of_dec (by kernel_rfl)), (by simp only [Ob.holds, z15]), (Ob.holds_of_dec (by kernel_rfl)), trivial⟩ ?_
  refine AG.fin ([.ex (.bool true)]) Go.Proofs.Tryd.f33 fn33 (.inr ⟨_, rfl⟩) (obs := []) (by kernel_rfl) trivial (by kernel_rfl) trivial (by kernel_rfl)
end Go.Proofs.YtlkihbmkekadeaaDoor.Ab
