/- Own: what the chapter's example says (no statement is proved here). -/
import Derived.Test.YtninpelebfhkdaaDoorC4
import Derived.KernelRfl
namespace Go.Proofs.YtninpelebfhkdaaDoor.Ab
open Go.Proofs
set_option linter.unusedSimpArgs false
theorem fn15 : Tryd.prog.funcs[15]? = some Tryd.f15 := by kernel_rfl
theorem fn28 : Tryd.prog.funcs[28]? = some Tryd.f28 := by kernel_rfl
def aK : Nat → Int := arf [0, 1, 2, 3, 4, 5, 6, 7, 8, 9, 10, 11, 12, 13, 14, 15, 16, 17, 18, 19, 20, 21, 22, 23, 24, 25, 26, 27, 28, 29, 30, 31]
def aI : Nat → Int := arf [1, 0, 0, 0, 0, 0, 0, 9, 0, 0, 0, 74, 0, 0, 0, 0]
def rowOf (s : Nat → Int) : List Int := (List.range 16).map s
theorem row_get (s : Nat → Int) (l : List Int) (h : rowOf s = l) (i : Nat) (hi : i < 16) : s i = arf l i := by
  rw [← h]; simp [rowOf, arf, List.getD, hi]
theorem qs_congr {s t : Nat → Int} (h : ∀ j, j < 16 → s j = t j) (a b c d : Nat) (ha : a < 16) (hb : b < 16) (hc : c < 16) (hd : d < 16) : ∀ j, j < 16 → qs s a b c d j = qs t a b c d j := by
  intro j hj
  simp only [qs, h a ha, h b hb, h c hc, h d hd, h j hj]
theorem two_congr {s t : Nat → Int} (h : ∀ j, j < 16 → s j = t j) : ∀ j, j < 16 → two s j = two t j := by
  unfold two
  refine qs_congr (qs_congr (qs_congr (qs_congr (qs_congr (qs_congr (qs_congr (qs_congr h _ _ _ _ ?_ ?_ ?_ ?_) _ _ _ _ ?_ ?_ ?_ ?_) _ _ _ _ ?_ ?_ ?_ ?_) _ _ _ _ ?_ ?_ ?_ ?_) _ _ _ _ ?_ ?_ ?_ ?_) _ _ _ _ ?_ ?_ ?_ ?_) _ _ _ _ ?_ ?_ ?_ ?_) _ _ _ _ ?_ ?_ ?_ ?_ <;> decide
theorem twoN_congr : ∀ (n : Nat) {s t : Nat → Int}, (∀ j, j < 16 → s j = t j) → ∀ j, j < 16 → twoN n s j = twoN n t j
  | 0, _, _, h => h
  | n + 1, _, _, h => twoN_congr n (two_congr h)
theorem awr0 : rowOf (stt aK aI) = [1634760805, 857760878, 2036477234, 1797285236, 50462976, 117835012, 185207048, 252579084, 319951120, 387323156, 454695192, 522067228, 1, 150994944, 1241513984, 0] := by kernel_rfl
theorem awr1 : rowOf (two (arf [1634760805, 857760878, 2036477234, 1797285236, 50462976, 117835012, 185207048, 252579084, 319951120, 387323156, 454695192, 522067228, 1, 150994944, 1241513984, 0])) = [3444762903, 2242577332, 3007673237, 4184729565, 3300379938, 1546524794, 3378426977, 829194266, 2079840064, 2128467524, 4053908981, 1980909258, 1796036771, 1738032922, 3610767719, 4050880653] := by kernel_rfl
theorem awr2 : rowOf (two (arf [3444762903, 2242577332, 3007673237, 4184729565, 3300379938, 1546524794, 3378426977, 829194266, 2079840064, 2128467524, 4053908981, 1980909258, 1796036771, 1738032922, 3610767719, 4050880653])) = [3474617732, 76097516, 1409621978, 3259301672, 2417831744, 2037692444, 932040628, 3444047118, 766489110, 667458774, 3443301024, 2046593479, 279900557, 371296101, 1761044229, 81194530] := by kernel_rfl
theorem awr3 : rowOf (two (arf [3474617732, 76097516, 1409621978, 3259301672, 2417831744, 2037692444, 932040628, 3444047118, 766489110, 667458774, 3443301024, 2046593479, 279900557, 371296101, 1761044229, 81194530])) = [60899378, 1722898727, 2641062722, 3092005129, 2803120864, 2694525917, 2782572424, 802757235, 3373034264, 1512055827, 3255697846, 1926065012, 3124090743, 3009475007, 2172137819, 751901466] := by kernel_rfl
theorem awr4 : rowOf (two (arf [60899378, 1722898727, 2641062722, 3092005129, 2803120864, 2694525917, 2782572424, 802757235, 3373034264, 1512055827, 3255697846, 1926065012, 3124090743, 3009475007, 2172137819, 751901466])) = [2586654089, 186907726, 1085225835, 3471475012, 169607110, 1582928887, 2567226087, 221464344, 3832308564, 3377476137, 83817898, 4170399602, 646435958, 1424380465, 898957253, 725332682] := by kernel_rfl
theorem awr5 : rowOf (two (arf [2586654089, 186907726, 1085225835, 3471475012, 169607110, 1582928887, 2567226087, 221464344, 3832308564, 3377476137, 83817898, 4170399602, 646435958, 1424380465, 898957253, 725332682])) = [3308460229, 3392298390, 2122125771, 872735434, 651677555, 1619579769, 3237013949, 3809529273, 2922162395, 1123449970, 1902549706, 2539394845, 2657010216, 2105911795, 538773334, 1677355347] := by kernel_rfl
theorem awr6 : rowOf (two (arf [3308460229, 3392298390, 2122125771, 872735434, 651677555, 1619579769, 3237013949, 3809529273, 2922162395, 1123449970, 1902549706, 2539394845, 2657010216, 2105911795, 538773334, 1677355347])) = [77796122, 1712808713, 68532913, 1639481506, 919373511, 3213509733, 4152219424, 4228635792, 131152586, 3943426479, 1633260689, 2441417436, 867592301, 2036123249, 3221526898, 2695371742] := by kernel_rfl
theorem awr7 : rowOf (two (arf [77796122, 1712808713, 68532913, 1639481506, 919373511, 3213509733, 4152219424, 4228635792, 131152586, 3943426479, 1633260689, 2441417436, 867592301, 2036123249, 3221526898, 2695371742])) = [2607871263, 2124983313, 568675753, 3392748335, 2477819526, 1783386286, 421603930, 2600675672, 3627619934, 1275519626, 3556632990, 648855869, 2785670485, 740582729, 2501187667, 746879501] := by kernel_rfl
theorem awr8 : rowOf (two (arf [2607871263, 2124983313, 568675753, 3392748335, 2477819526, 1783386286, 421603930, 2600675672, 3627619934, 1275519626, 3556632990, 648855869, 2785670485, 740582729, 2501187667, 746879501])) = [3395061213, 2477062414, 3656441688, 652051165, 2552587256, 1898621439, 664429032, 2534372029, 472224538, 1367390992, 2006722535, 1409777160, 2847363579, 942619874, 2377217405, 3426224139] := by kernel_rfl
theorem awr9 : rowOf (two (arf [3395061213, 2477062414, 3656441688, 652051165, 2552587256, 1898621439, 664429032, 2534372029, 472224538, 1367390992, 2006722535, 1409777160, 2847363579, 942619874, 2377217405, 3426224139])) = [3065544166, 2583781704, 2475005973, 1226172108, 3694379298, 2564919203, 1610344700, 4145367947, 683801779, 3300102045, 2212689367, 2099558795, 554142498, 2979260323, 3002373001, 1826512934] := by kernel_rfl
theorem awr10 : rowOf (two (arf [3065544166, 2583781704, 2475005973, 1226172108, 3694379298, 2564919203, 1610344700, 4145367947, 683801779, 3300102045, 2212689367, 2099558795, 554142498, 2979260323, 3002373001, 1826512934])) = [2205644971, 3795375971, 2793071134, 1498463023, 3304247495, 4234328879, 2409634044, 1063176119, 861041090, 4069820915, 3938298108, 2196008637, 3516666548, 2957907678, 2659438795, 1312575650] := by kernel_rfl
theorem awake_m (j : Nat) (hj : j < 16) : mixr 20 (stt aK aI) j = arf [2205644971, 3795375971, 2793071134, 1498463023, 3304247495, 4234328879, 2409634044, 1063176119, 861041090, 4069820915, 3938298108, 2196008637, 3516666548, 2957907678, 2659438795, 1312575650] j := by
  have step : ∀ (n : Nat) (s : Nat → Int) (l l' : List Int), (∀ j, j < 16 → s j = arf l j) → rowOf (two (arf l)) = l' → ∀ j, j < 16 → twoN (n + 1) s j = twoN n (arf l') j := fun n s l l' h e j hj =>
    twoN_congr n (fun i hi => (two_congr h i hi).trans (row_get _ _ e i hi)) j hj
  show twoN 10 (stt aK aI) j = _
  rw [step 9 _ _ _ (fun i hi => row_get _ _ awr0 i hi) awr1 j hj, step 8 _ _ _ (fun _ _ => rfl) awr2 j hj, step 7 _ _ _ (fun _ _ => rfl) awr3 j hj, step 6 _ _ _ (fun _ _ => rfl) awr4 j hj, step 5 _ _ _ (fun _ _ => rfl) awr5 j hj, step 4 _ _ _ (fun _ _ => rfl) awr6 j hj, step 3 _ _ _ (fun _ _ => rfl) awr7 j hj, step 2 _ _ _ (fun _ _ => rfl) awr8 j hj, step 1 _ _ _ (fun _ _ => rfl) awr9 j hj, step 0 _ _ _ (fun _ _ => rfl) awr10 j hj]
  rfl
theorem awake_blk : ∃ bb : Nat → Int, bb 0 = 16 ∧ bb 1 = 241 ∧ bb 2 = 231 ∧ bb 3 = 228 ∧ CallOK Tryd.prog (fun g => [(1, 0)].lookup g) 14 [.ex (.agg (ar8 32 aK).toArray), .ex (.agg (ar8 16 aI).toArray), .ex (.int .i64 20)] [(0, .view (lets.map (Value.int .u32)))] { val := .tup [.ex (.agg (ar8 64 bb).toArray), .ex (.int .i64 0)] } := by
  have e : ∀ j, j < 4 → blk (mixr 20 (stt aK aI)) (stt aK aI) j = putw (add32 2205644971 (stt aK aI 0)) j := fun j hj => by
    have h0 : j / 4 = 0 := by omega
    have h1 : j % 4 = j := by omega
    unfold blk
    rw [h0, h1, awake_m 0 (by decide)]
    rfl
  refine ⟨_, ?_, ?_, ?_, ?_, block_ok aK aI 20 (.inr (.inr rfl))⟩
  · rw [e 0 (by decide)]; kernel_rfl
  · rw [e 1 (by decide)]; kernel_rfl
  · rw [e 2 (by decide)]; kernel_rfl
  · rw [e 3 (by decide)]; kernel_rfl
theorem awake_ok : CallOK Tryd.prog (fun g => [(1, 0)].lookup g) 15 [] [(0, .view (lets.map (Value.int .u32)))] { val := .ex (.bool true) } := by
  obtain ⟨bb, e0, e1, e2, e3, hc⟩ := awake_blk
  have f0 : (bb 0 == 16) = true := by rw [e0]; rfl
  have f1 : (bb 1 == 241) = true := by rw [e1]; rfl
  have f2 : (bb 2 == 231) = true := by rw [e2]; rfl
  have f3 : (bb 3 == 228) = true := by rw [e3]; rfl
  clear e0 e1 e2 e3
  refine CallOK.from hmix Tryd.f15 1 fn15 (by kernel_rfl) (by kernel_rfl) (fun w ρ h1 h2 => ?_)
  refine AG.rk 367 [1] [0, 5] 6 (todo' := [.code (sub (codeOf Tryd.f15) [1, 1, 1, 0]), .code (sub (codeOf Tryd.f15) [1, 1, 1, 1])]) (st' := ⟨mkT 41 [(1, .p 5 0)], [(0, .view [Value.int .u32 1634760805, Value.int .u32 857760878, Value.int .u32 2036477234, Value.int .u32 1797285236]), (5, .own [Value.int .u8 0, Value.int .u8 1, Value.int .u8 2, Value.int .u8 3, Value.int .u8 4, Value.int .u8 5, Value.int .u8 6, Value.int .u8 7, Value.int .u8 8, Value.int .u8 9, Value.int .u8 10, Value.int .u8 11, Value.int .u8 12, Value.int .u8 13, Value.int .u8 14, Value.int .u8 15, Value.int .u8 16, Value.int .u8 17, Value.int .u8 18, Value.int .u8 19, Value.int .u8 20, Value.int .u8 21, Value.int .u8 22, Value.int .u8 23, Value.int .u8 24, Value.int .u8 25, Value.int .u8 26, Value.int .u8 27, Value.int .u8 28, Value.int .u8 29, Value.int .u8 30, Value.int .u8 31])], 6⟩) (by kernel_rfl) (by kernel_rfl) ?_
  refine AG.gk [] [(2, useR [(0, 0, 0)] 14 ({ val := .tup [.ex (.agg (List.toArray (ar8 64 bb))), .ex (.int .i64 0)] }))] [3, 4] [0, 30] 31 (st' := ⟨mkT 41 [(3, .p 30 0), (4, .ex (.int .i64 0))], [(0, .view [Value.int .u32 1634760805, Value.int .u32 857760878, Value.int .u32 2036477234, Value.int .u32 1797285236]), (30, .own (ar8 64 bb))], 31⟩) (obs := [Ob.call (fun g => List.lookup g [(1, 0)]) 14 [.ex (.agg { toList := [Value.int .u8 0, Value.int .u8 1, Value.int .u8 2, Value.int .u8 3, Value.int .u8 4, Value.int .u8 5, Value.int .u8 6, Value.int .u8 7, Value.int .u8 8, Value.int .u8 9, Value.int .u8 10, Value.int .u8 11, Value.int .u8 12, Value.int .u8 13, Value.int .u8 14, Value.int .u8 15, Value.int .u8 16, Value.int .u8 17, Value.int .u8 18, Value.int .u8 19, Value.int .u8 20, Value.int .u8 21, Value.int .u8 22, Value.int .u8 23, Value.int .u8 24, Value.int .u8 25, Value.int .u8 26, Value.int .u8 27, Value.int .u8 28, Value.int .u8 29, Value.int .u8 30, Value.int .u8 31] }), .ex (.agg { toList := [Value.int .u8 1, Value.int .u8 0, Value.int .u8 0, Value.int .u8 0, Value.int .u8 0, Value.int .u8 0, Value.int .u8 0, Value.int .u8 9, Value.int .u8 0, Value.int .u8 0, Value.int .u8 0, Value.int .u8 74, Value.int .u8 0, Value.int .u8 0, Value.int .u8 0, Value.int .u8 0] }), .ex (.int .i64 20)] [(0, .view [Value.int .u32 1634760805, Value.int .u32 857760878, Value.int .u32 2036477234, Value.int .u32 1797285236])] (useR [(0, 0, 0)] 14 { val := .tup [.ex (.agg (List.toArray (ar8 64 bb))), .ex (.int .i64 0)] })]) (by kernel_rfl) (by kernel_rfl) ⟨(CallOK.at [(0, 0, 0)] 14 (hc ) (.cons (.ex _) (.cons (.ex _) (.cons (.ex _) .nil))) (.cons rfl rfl ⟨_, rfl, (by exact cov_all _)⟩ .nil) (by kernel_rfl)), trivial⟩ ?_
  refine AG.rk 1 [3, 4] [0, 30] 31 (todo' := [.code (sub (codeOf Tryd.f15) [1, 1, 1, 1, 0]), .code (sub (codeOf Tryd.f15) [1, 1, 1, 1, 1])]) (st' := ⟨mkT 41 [(3, .p 30 0), (4, .ex (.int .i64 0))], [(0, .view [Value.int .u32 1634760805, Value.int .u32 857760878, Value.int .u32 2036477234, Value.int .u32 1797285236]), (30, .own (ar8 64 bb))], 31⟩) (by kernel_rfl) (by kernel_rfl) ?_
  refine AG.gk [] [(4, { val := .ex (.int .u8 (bb 0)) }), (5, { val := .ex (.bool true) }), (9, { val := .ex (.int .u8 (bb 1)) }), (10, { val := .ex (.bool true) }), (14, { val := .ex (.int .u8 (bb 2)) }), (15, { val := .ex (.bool true) }), (19, { val := .ex (.int .u8 (bb 3)) }), (20, { val := .ex (.bool true) })] [0] [0] 1 (st' := ⟨mkT 41 [(0, .ex (.bool true))], [(0, .view [Value.int .u32 1634760805, Value.int .u32 857760878, Value.int .u32 2036477234, Value.int .u32 1797285236])], 1⟩) (obs := [Ob.eq (.ex (.int .u8 (bb 0))) (.ex (.int .u8 (bb 0))), Ob.le 1 64, Ob.eq (.ex (.bool (bb 0 == 16))) (.ex (.bool true)), Ob.eq (.ex (.int .u8 (bb 1))) (.ex (.int .u8 (bb 1))), Ob.le 2 64, Ob.eq (.ex (.bool (bb 1 == 241))) (.ex (.bool true)), Ob.eq (.ex (.int .u8 (bb 2))) (.ex (.int .u8 (bb 2))), Ob.le 3 64, Ob.eq (.ex (.bool (bb 2 == 231))) (.ex (.bool true)), Ob.eq (.ex (.int .u8 (bb 3))) (.ex (.int .u8 (bb 3))), Ob.le 4 64, Ob.eq (.ex (.bool (bb 3 == 228))) (.ex (.bool true))]) (by kernel_rfl) (by kernel_rfl) ⟨(by simp only [Ob.holds, f0, f1, f2, f3]), (Ob.holds_of_dec (by kernel_rfl)), (by simp only [Ob.holds, f0, f1, f2, f3]), (by simp only [Ob.holds, f0, f1, f2, f3]), (Ob.holds_of_dec (by kernel_rfl)), (by simp only [Ob.holds, f0, f1, f2, f3]), (by simp only [Ob.holds, f0, f1, f2, f3]), (Ob.holds_of_dec (by kernel_rfl)), (by simp only [Ob.holds, f0, f1, f2, f3]), (by simp only [Ob.holds, f0, f1, f2, f3]), (Ob.holds_of_dec (by kernel_rfl)), (by simp only [Ob.holds, f0, f1, f2, f3]), trivial⟩ ?_
  refine AG.fin ([.ex (.bool true)]) Go.Proofs.Tryd.f15 fn15 (.inr ⟨_, rfl⟩) (obs := []) (by kernel_rfl) trivial (by kernel_rfl) trivial (by kernel_rfl)
theorem right_yes (r : Int) (h : r = 8 ∨ r = 12 ∨ r = 20) : CallOK Tryd.prog (fun _ => none) 28 [.ex (.int .i64 r)] [] { val := .ex (.bool true) } := by
  rcases h with rfl | rfl | rfl
  · refine CallOK.from0 hmix Tryd.f28 0 fn28 (by kernel_rfl) (by kernel_rfl) (fun w ρ h1 h2 => ?_)
    refine AG.rk 4 [2] [] 0 (todo' := [.code (sub (codeOf Tryd.f28) [1, 1])]) (st' := ⟨mkT 13 [(2, .ex (.bool true))], [], 0⟩) (by kernel_rfl) (by kernel_rfl) ?_
    refine AG.fin ([.ex (.bool true)]) Go.Proofs.Tryd.f28 fn28 (.inr ⟨_, rfl⟩) (obs := []) (by kernel_rfl) trivial (by kernel_rfl) trivial (by kernel_rfl)
  · refine CallOK.from0 hmix Tryd.f28 0 fn28 (by kernel_rfl) (by kernel_rfl) (fun w ρ h1 h2 => ?_)
    refine AG.rk 4 [2] [] 0 (todo' := [.code (sub (codeOf Tryd.f28) [1, 1])]) (st' := ⟨mkT 13 [(2, .ex (.bool true))], [], 0⟩) (by kernel_rfl) (by kernel_rfl) ?_
    refine AG.fin ([.ex (.bool true)]) Go.Proofs.Tryd.f28 fn28 (.inr ⟨_, rfl⟩) (obs := []) (by kernel_rfl) trivial (by kernel_rfl) trivial (by kernel_rfl)
  · refine CallOK.from0 hmix Tryd.f28 0 fn28 (by kernel_rfl) (by kernel_rfl) (fun w ρ h1 h2 => ?_)
    refine AG.rk 4 [2] [] 0 (todo' := [.code (sub (codeOf Tryd.f28) [1, 1])]) (st' := ⟨mkT 13 [(2, .ex (.bool true))], [], 0⟩) (by kernel_rfl) (by kernel_rfl) ?_
    refine AG.fin ([.ex (.bool true)]) Go.Proofs.Tryd.f28 fn28 (.inr ⟨_, rfl⟩) (obs := []) (by kernel_rfl) trivial (by kernel_rfl) trivial (by kernel_rfl)
theorem right_no (r : Int) (h8 : (r == 8) = false) (h12 : (r == 12) = false) (h20 : (r == 20) = false) : CallOK Tryd.prog (fun _ => none) 28 [.ex (.int .i64 r)] [] { val := .ex (.bool false) } := by
  refine CallOK.from0 hmix Tryd.f28 0 fn28 (by kernel_rfl) (by kernel_rfl) (fun w ρ h1 h2 => ?_)
  refine AG.rk 3 [0] [] 0 (todo' := [.code (sub (codeOf Tryd.f28) [1, 0]), .code (sub (codeOf Tryd.f28) [1, 1])]) (st' := ⟨mkT 13 [(0, .ex (.int .i64 r))], [], 0⟩) (by kernel_rfl) (by kernel_rfl) ?_
  refine AG.gk [] [(1, { val := .ex (.bool false) }), (4, { val := .ex (.bool false) }), (8, { val := .ex (.bool false) })] [2] [] 0 (st' := ⟨mkT 13 [(2, .ex (.bool false))], [], 0⟩) (obs := [Ob.eq (.ex (.bool (r == 8))) (.ex (.bool false)), Ob.eq (.ex (.bool (r == 12))) (.ex (.bool false)), Ob.eq (.ex (.bool (r == 20))) (.ex (.bool false))]) (by kernel_rfl) (by kernel_rfl) ⟨(by simp only [Ob.holds, h8, h12, h20]), (by simp only [Ob.holds, h8, h12, h20]), (by simp only [Ob.holds, h8, h12, h20]), trivial⟩ ?_
  refine AG.fin ([.ex (.bool false)]) Go.Proofs.Tryd.f28 fn28 (.inr ⟨_, rfl⟩) (obs := []) (by kernel_rfl) trivial (by kernel_rfl) trivial (by kernel_rfl)
end Go.Proofs.YtninpelebfhkdaaDoor.Ab
