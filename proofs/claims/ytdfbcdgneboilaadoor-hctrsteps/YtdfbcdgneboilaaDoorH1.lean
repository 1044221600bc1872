/- Own: hctr's parts, sums and own blocks (no statement is proved here). -/
import Derived.Test.YtdfbcdgneboilaaDoorV4
import Derived.Test.YtdfbcdgneboilaaDoorT4
import Derived.Test.YtdfbcdgneboilaaDoorT3
import Derived.Test.YtdfbcdgneboilaaDoorF6
import Derived.KernelRfl
namespace Go.Proofs.YtdfbcdgneboilaaDoor.Ab
open Go.Proofs Go.RowKit
set_option linter.unusedSimpArgs false
set_option linter.unusedVariables false
set_option maxRecDepth 4000
-- AGLIM=12
theorem len_rng (n : Nat) (f : Nat → Int) : ((List.range n).map f).length = n := by simp
theorem xor16 (u v : E) : ar8 16 (xr ((List.range 16).map (byt u)) ((List.range 16).map (byt v))) = ar8 16 (byt (u ^^^ v)) := ar8_congr fun j hj => by
  unfold xr; rw [bAt_rng 16 _ j hj, bAt_rng 16 _ j hj, byt_xor u v j hj]
theorem oxor_e (u v : E) : CallOK Tryd.prog (fun _ => none) 37 [.sv 0 0 16, .sv 1 0 16] [(0, .view (ar8 16 (byt u))), (1, .view (ar8 16 (byt v)))] { val := .s 2 0 16 16, upd := [(2, .own (ar8 16 (byt (u ^^^ v))))], nks := [2] } := by
  have c := xor_ok ((List.range 16).map (byt u)) ((List.range 16).map (byt v)) 16 (by simp) (by simp)
  rw [mapr8, mapr8, len_rng, len_rng, xor16] at c
  exact c
theorem oblock_e (u : E) : CallOK Tryd.prog (fun _ => none) 20 [.sv 0 0 16] [(0, .view (ar8 16 (byt u)))] { val := .ex (.agg (ar8 16 (byt u)).toArray) } := by
  have c := oblock_ok ((List.range 16).map (byt u))
  rw [mapr8, len_rng, ar8_congr (s := fun i : Nat => bAt ((List.range 16).map (byt u)) i) (t := byt u) fun j hj => bAt_rng 16 _ j hj] at c
  exact c
theorem fn45 : Tryd.prog.funcs[45]? = some Tryd.f45 := by kernel_rfl
theorem fn44 : Tryd.prog.funcs[44]? = some Tryd.f44 := by kernel_rfl
theorem fn8 : Tryd.prog.funcs[8]? = some Tryd.f8 := by kernel_rfl
theorem hplus_e (u v : E) : CallOK Tryd.prog (fun _ => none) 45 [.ex (.agg (ar8 16 (byt u)).toArray), .ex (.agg (ar8 16 (byt v)).toArray)] [] { val := .ex (.agg (ar8 16 (byt (u ^^^ v))).toArray) } := by
  have c1 := oxor_e u v
  have c2 := oblock_e (u ^^^ v)
  generalize byt (u ^^^ v) = z at *
  generalize byt u = f at *
  generalize byt v = g at *
  refine CallOK.from0 hmix Tryd.f45 0 fn45 (by kernel_rfl) (by kernel_rfl) (fun w ρ h1 h2 => ?_)
  refine AG.rs 4 [([], []), ([], [(2, useR [(0, 0, 0), (1, 4, 0)] 20 ({ val := .s 2 0 16 16, upd := [(2, .own (ar8 16 z))], nks := [2] })), (3, useR [(0, 20, 0)] 24 ({ val := .ex (.agg (List.toArray (ar8 16 z))) }))])] [4] [8] 9 (todo' := [.code (sub (codeOf Tryd.f45) [1, 1])]) (st' := ⟨mkT 9 [(4, .p 8 0)], [(8, .own (ar8 16 z))], 9⟩) (obs := [Ob.call (fun g => List.lookup g []) 37 [.s 0 0 16 16, .s 4 0 16 16] [(0, .own (ar8 16 f)), (4, .own (ar8 16 g))] (useR [(0, 0, 0), (1, 4, 0)] 20 { val := .s 2 0 16 16, upd := [(2, .own (ar8 16 z))], nks := [2] }), Ob.call (fun g => List.lookup g []) 20 [.s 20 0 16 16] [(20, .own (ar8 16 z))] (useR [(0, 20, 0)] 24 { val := .ex (.agg (List.toArray (ar8 16 z))) })]) (by kernel_rfl) (by kernel_rfl) ⟨(CallOK.at0 [(0, 0, 0), (1, 4, 0)] 20 (c1 ) (.cons (.vs rfl (by first | omega | (simp; done) | (simp; omega))) (.cons (.vs rfl (by first | omega | (simp; done) | (simp; omega))) .nil)) (.cons rfl rfl ⟨_, rfl, (by exact cov_all _)⟩ (.cons rfl rfl ⟨_, rfl, (by exact cov_all _)⟩ .nil)) (by kernel_rfl)), (CallOK.at0 [(0, 20, 0)] 24 (c2 ) (.cons (.vs rfl (by first | omega | (simp; done) | (simp; omega))) .nil) (.cons rfl rfl ⟨_, rfl, (by exact cov_all _)⟩ .nil) (by kernel_rfl)), trivial⟩ ?_
  refine AG.fin ([.ex (.agg { toList := ar8 16 z })]) Go.Proofs.Tryd.f45 fn45 (.inr ⟨_, rfl⟩) (obs := [Ob.le 16 16]) (by kernel_rfl) ⟨(Ob.holds_of_dec (by kernel_rfl)), trivial⟩ (by kernel_rfl) trivial (by kernel_rfl)
/-! blocks, enciphered, told as elements -/
theorem b8_byt (u : E) : B8 (byt u) := fun i => r8_byt u i
def encE (F : Nat → Int) (r : Nat) (u : E) : E := el (encI F r (byt u))
def decE (F : Nat → Int) (r : Nat) (u : E) : E := el (decI F r (byt u))
theorem byt_encE {F : Nat → Int} (hF : B8 F) (r : Nat) (u : E) (j : Nat) (hj : j < 16) : byt (encE F r u) j = encI F r (byt u) j := byt_el _ (fun i _ => b8_enc hF (b8_byt u) r i) j hj
theorem byt_decE {F : Nat → Int} (hF : B8 F) (r : Nat) (u : E) (j : Nat) (hj : j < 16) : byt (decE F r u) j = decI F r (byt u) j := byt_el _ (fun i _ => b8_dec hF (b8_byt u) r i) j hj
/-- A key, as cells. -/
abbrev keyV (k : Nat) (r : Nat) (F : Nat → Int) : List AV := .p k 0 :: .ex (.int .i64 (r : Int)) :: (ar8 240 F).map .ex
theorem encrypt_e {tb : List Value} (ht : tb = tabT) (r : Nat) (h0 : 0 < r) (h1 : r < 15) (F : Nat → Int) (hF : B8 F) (u : E) : CallOK Tryd.prog (fun _ => none) 18 [.p 0 0, .ex (.agg (ar8 16 (byt u)).toArray)] [(0, .mix (keyV 1 r F)), (1, .own tb)] { val := .ex (.agg (ar8 16 (byt (encE F r u))).toArray) } := by
  have c := encrypt_ok ht r h0 h1 F (byt u) hF (b8_byt u)
  rw [ar8_congr (t := byt (encE F r u)) fun j hj => (byt_encE hF r u j hj).symm] at c
  exact c
theorem decrypt_e {tb : List Value} (ht : tb = tabT) (r : Nat) (h0 : 0 < r) (h1 : r < 15) (F : Nat → Int) (hF : B8 F) (u : E) : CallOK Tryd.prog (fun _ => none) 23 [.p 0 0, .ex (.agg (ar8 16 (byt u)).toArray)] [(0, .mix (keyV 1 r F)), (1, .own tb)] { val := .ex (.agg (ar8 16 (byt (decE F r u))).toArray) } := by
  have c := decrypt_ok ht r h0 h1 F (byt u) hF (b8_byt u)
  rw [ar8_congr (t := byt (decE F r u)) fun j hj => (byt_decE hF r u j hj).symm] at c
  exact c
theorem nI_encE {F : Nat → Int} (hF : B8 F) (r : Nat) (u : E) (j : Nat) (hj : j < 16) : nI (byt (encE F r u)) j = encB (nI F) r (nI (byt u)) j := by
  unfold nI
  rw [byt_encE hF r u j hj]
  show (((encB (nI F) r (nI (byt u)) j : Nat) : Int)).toNat = _
  rw [Int.toNat_natCast]; rfl
theorem nI_decE {F : Nat → Int} (hF : B8 F) (r : Nat) (u : E) (j : Nat) (hj : j < 16) : nI (byt (decE F r u)) j = decB (nI F) r (nI (byt u)) j := by
  unfold nI
  rw [byt_decE hF r u j hj]
  show (((decB (nI F) r (nI (byt u)) j : Nat) : Int)).toNat = _
  rw [Int.toNat_natCast]; rfl
/-! a message's parts -/
theorem conc2_ok (xs ys : List Int) (h0 : 0 < xs.length) (hl : xs.length + ys.length ≤ 1000000) : CallOK Tryd.prog (fun _ => none) 46 [.sv 0 0 2] [(0, .mixv [.sv 1 0 xs.length, .sv 2 0 ys.length]), (1, .view (xs.map (Value.int .u8))), (2, .view (ys.map (Value.int .u8)))] { val := .o 3 0 (xs ++ ys).length, upd := [(3, .row ((xs ++ ys).map (Value.int .u8)))], nks := [3] } := by
  refine CallOK.from0 hmix Tryd.f46 3 fn46 (by kernel_rfl) (by kernel_rfl) (fun w ρ h1 h2 => ?_)
  have w1 : IntKind.i64.wrap (0 + (xs.length : Int)) = ((xs.length : Nat) : Int) := by rw [wrap64_id _ (by omega) (by omega)]; omega
  have w2 : IntKind.i64.wrap ((xs.length : Int) + (ys.length : Int)) = ((xs.length + ys.length : Nat) : Int) := by rw [wrap64_id _ (by omega) (by omega)]; omega
  have g1 : decide ((xs.length : Int) < 0) = false := by simp
  have g2 : decide (((xs.length + ys.length : Nat) : Int) < 0) = false := by rw [decide_eq_false_iff_not]; omega
  have cg := grow_ok (xs.length + ys.length) (by omega) (by omega)
  have tk : ∀ l : List Int, List.take l.length (List.drop 0 (List.map (Value.int IntKind.u8) l)) = List.map (Value.int IntKind.u8) l := fun l => by rw [List.drop_zero, List.take_of_length_le (by simp)]
  refine AG.rs 90 [([], []), ([], []), ([], []), ([], []), ([], []), ([], [(3, { val := .ex (.int .i64 (↑(List.length xs) : Int)) })]), ([], []), ([], []), ([], []), ([], []), ([], [(3, { val := .ex (.int .i64 (↑(List.length xs + List.length ys) : Int)) })]), ([], []), ([], []), ([], []), ([], [(1, useR [] 135 ({ val := .o 0 0 0, upd := [(0, .row [])], nks := [0] }))]), ([], []), ([], []), ([], []), ([2], []), ([], []), ([], []), ([], []), ([2], []), ([], []), ([], []), ([], [])] [2] [0, 1, 2, 219] 220 (todo' := [.code (sub (codeOf Tryd.f46) [1, 1, 1, 1, 1, 1])]) (st' := ⟨mkT 36 [(2, .o 219 0 (List.length ([] ++ List.take (List.length xs) (List.drop 0 (List.map (Value.int .u8) xs))) + List.length (List.take (List.length ys) (List.drop 0 (List.map (Value.int .u8) ys)))))], [(0, .mixv [.sv 1 0 (List.length xs), .sv 2 0 (List.length ys)]), (1, .view (List.map (Value.int .u8) xs)), (2, .view (List.map (Value.int .u8) ys)), (219, .row ([] ++ List.take (List.length xs) (List.drop 0 (List.map (Value.int .u8) xs)) ++ List.take (List.length ys) (List.drop 0 (List.map (Value.int .u8) ys))))], 220⟩) (obs := [Ob.eq (.ex (.int .i64 (IntKind.wrap .i64 (0 + (↑(List.length xs) : Int))))) (.ex (.int .i64 (↑(List.length xs) : Int))), Ob.eq (.ex (.int .i64 (IntKind.wrap .i64 ((↑(List.length xs) : Int) + (↑(List.length ys) : Int))))) (.ex (.int .i64 (↑(List.length xs + List.length ys) : Int))), Ob.call (fun g => List.lookup g []) 65 [.ex (.slice none 0 0), .ex (.int .i64 (↑(List.length xs + List.length ys) : Int))] [] (useR [] 135 { val := .o 0 0 0, upd := [(0, .row [])], nks := [0] }), Ob.le ((0 + List.length (List.take (List.length xs) (List.drop 0 (List.map (Value.int .u8) xs)))) * 1) 140737488355328, Ob.le (0 + List.length (List.take (List.length xs) (List.drop 0 (List.map (Value.int .u8) xs)))) 140737488355328, Ob.one (List.take (List.length xs) (List.drop 0 (List.map (Value.int .u8) xs))), Ob.le 0 0, Ob.le 0 0, Ob.le (0 + List.length xs) (List.length (List.map (Value.int .u8) xs)), Ob.le ((List.length ([] ++ List.take (List.length xs) (List.drop 0 (List.map (Value.int .u8) xs))) + List.length (List.take (List.length ys) (List.drop 0 (List.map (Value.int .u8) ys)))) * 1) 140737488355328, Ob.le (List.length ([] ++ List.take (List.length xs) (List.drop 0 (List.map (Value.int .u8) xs))) + List.length (List.take (List.length ys) (List.drop 0 (List.map (Value.int .u8) ys)))) 140737488355328, Ob.one (List.take (List.length ys) (List.drop 0 (List.map (Value.int .u8) ys))), Ob.le (0 + List.length (List.take (List.length xs) (List.drop 0 (List.map (Value.int .u8) xs)))) (List.length ([] ++ List.take (List.length xs) (List.drop 0 (List.map (Value.int .u8) xs)))), Ob.le (List.length ([] ++ List.take (List.length xs) (List.drop 0 (List.map (Value.int .u8) xs)))) (0 + List.length (List.take (List.length xs) (List.drop 0 (List.map (Value.int .u8) xs)))), Ob.le (0 + List.length ys) (List.length (List.map (Value.int .u8) ys))]) (by kernel_rfl) (by kernel_rfl) ⟨(by simp only [Ob.holds, w1]), (by simp only [Ob.holds, w2]), (CallOK.at0 [] 135 (cg ) (.cons (.ex _) (.cons (.ex _) .nil)) .nil (by kernel_rfl)), (by (simp [Ob.holds]; omega)), (by (simp [Ob.holds]; omega)), (by exact one_take (one_map _ _) _), (Ob.holds_of_dec (by kernel_rfl)), (Ob.holds_of_dec (by kernel_rfl)), (by (simp [Ob.holds]; done)), (by (simp [Ob.holds]; omega)), (by (simp [Ob.holds]; omega)), (by exact one_take (one_map _ _) _), (by (simp [Ob.holds]; done)), (by (simp [Ob.holds]; done)), (by (simp [Ob.holds]; done)), trivial⟩ ?_
  refine AG.ren 219 3 (st' := ⟨mkT 36 [(2, .o 3 0 (List.length ([] ++ List.take (List.length xs) (List.drop 0 (List.map (Value.int .u8) xs))) + List.length (List.take (List.length ys) (List.drop 0 (List.map (Value.int .u8) ys)))))], [(0, .mixv [.sv 1 0 (List.length xs), .sv 2 0 (List.length ys)]), (1, .view (List.map (Value.int .u8) xs)), (2, .view (List.map (Value.int .u8) ys)), (3, .row ([] ++ List.take (List.length xs) (List.drop 0 (List.map (Value.int .u8) xs)) ++ List.take (List.length ys) (List.drop 0 (List.map (Value.int .u8) ys))))], 220⟩) (by kernel_rfl) (by kernel_rfl) ?_
  refine AG.fin ([.o 3 0 (List.length ([] ++ List.take (List.length xs) (List.drop 0 (List.map (Value.int .u8) xs))) + List.length (List.take (List.length ys) (List.drop 0 (List.map (Value.int .u8) ys))))]) Go.Proofs.Tryd.f46 fn46 (.inr ⟨_, rfl⟩) (obs := []) (by kernel_rfl) trivial ?_ ⟨?_, trivial⟩ (by kernel_rfl)
  · show AV.o 3 0 (([] ++ List.take xs.length (List.drop 0 (List.map (Value.int IntKind.u8) xs))).length + (List.take ys.length (List.drop 0 (List.map (Value.int IntKind.u8) ys))).length) = AV.o 3 0 (xs ++ ys).length
    rw [tk, tk]; congr 1; simp
  · show some (Blk.row ([] ++ List.take xs.length (List.drop 0 (List.map (Value.int IntKind.u8) xs)) ++ List.take ys.length (List.drop 0 (List.map (Value.int IntKind.u8) ys)))) = _
    rw [tk, tk]; simp
theorem parts_ok (m : List Int) (h16 : 16 ≤ m.length) (hl : m.length ≤ 70000) : CallOK Tryd.prog (fun _ => none) 44 [.sv 0 0 m.length] [(0, .view (m.map (Value.int .u8)))] { val := .tup [.s 1 0 16 16, .s 2 0 (m.length - 16) (m.length - 16)], upd := [(1, .own (ar8 16 (fun j => bAt m ((0 + j : Nat) : Int)))), (2, .own (ar8 (m.length - 16) (fun j => bAt m ((16 + j : Nat) : Int))))], nks := [1, 2] } := by
  have c1 := of_ok m hl 0 16 (by omega)
  have c2 := of_ok m hl 16 (m.length - 16) (by omega)
  have w1 : IntKind.i64.wrap ((m.length : Int) - 16) = ((m.length - 16 : Nat) : Int) := by rw [wrap64_id _ (by omega) (by omega)]; omega
  refine CallOK.from0 hmix Tryd.f44 1 fn44 (by kernel_rfl) (by kernel_rfl) (fun w ρ h1 h2 => ?_)
  refine AG.rs 8 [([], []), ([], [(1, useR [(0, 0, 0)] 13 ({ val := .tup [.s 1 0 16 16, .ex (.bool true)], upd := [(1, .own (ar8 16 fun j => bAt m (↑(0 + j) : Int)))], nks := [1] }))]), ([], [(3, { val := .ex (.int .i64 (↑(List.length m - 16) : Int)) }), (6, useR [(0, 0, 0)] 57 ({ val := .tup [.s 1 0 (List.length m - 16) (List.length m - 16), .ex (.bool true)], upd := [(1, .own (ar8 (List.length m - 16) fun j => bAt m (↑(16 + j) : Int)))], nks := [1] }))]), ([], [])] [2, 3] [0, 13, 57] 58 (todo' := [.code (sub (codeOf Tryd.f44) [1, 1, 1, 1])]) (st' := ⟨mkT 21 [(2, .s 13 0 16 16), (3, .s 57 0 (List.length m - 16) (List.length m - 16))], [(0, .view (List.map (Value.int .u8) m)), (13, .own (ar8 16 fun j => bAt m (↑(0 + j) : Int))), (57, .own (ar8 (List.length m - 16) fun j => bAt m (↑(16 + j) : Int)))], 58⟩) (obs := [Ob.call (fun g => List.lookup g []) 64 [.sv 0 0 (List.length m), .ex (.complex FloatKind.f64 0 4625196817309499392)] [(0, .view (List.map (Value.int .u8) m))] (useR [(0, 0, 0)] 13 { val := .tup [.s 1 0 16 16, .ex (.bool true)], upd := [(1, .own (ar8 16 fun j => bAt m (↑(0 + j) : Int)))], nks := [1] }), Ob.eq (.ex (.int .i64 (IntKind.wrap .i64 ((↑(List.length m) : Int) - 16)))) (.ex (.int .i64 (↑(List.length m - 16) : Int))), Ob.call (fun g => List.lookup g []) 64 [.sv 0 0 (List.length m), .ex (.complex FloatKind.f64 4625196817309499392 (FloatKind.nearest FloatKind.f64 (↑(List.length m - 16) : Int)))] [(0, .view (List.map (Value.int .u8) m))] (useR [(0, 0, 0)] 57 { val := .tup [.s 1 0 (List.length m - 16) (List.length m - 16), .ex (.bool true)], upd := [(1, .own (ar8 (List.length m - 16) fun j => bAt m (↑(16 + j) : Int)))], nks := [1] })]) (by kernel_rfl) (by kernel_rfl) ⟨(CallOK.at0 [(0, 0, 0)] 13 (c1 ) (.cons (.vv rfl) (.cons (.ex _) .nil)) (.cons rfl rfl ⟨_, rfl, (by exact cov_all _)⟩ .nil) (by kernel_rfl)), (by simp only [Ob.holds, w1]), (CallOK.at0 [(0, 0, 0)] 57 (c2 ) (.cons (.vv rfl) (.cons (.ex _) .nil)) (.cons rfl rfl ⟨_, rfl, (by exact cov_all _)⟩ .nil) (by kernel_rfl)), trivial⟩ ?_
  refine AG.ren 13 1 (st' := ⟨mkT 21 [(2, .s 1 0 16 16), (3, .s 57 0 (List.length m - 16) (List.length m - 16))], [(0, .view (List.map (Value.int .u8) m)), (1, .own (ar8 16 fun j => bAt m (↑(0 + j) : Int))), (57, .own (ar8 (List.length m - 16) fun j => bAt m (↑(16 + j) : Int)))], 58⟩) (by kernel_rfl) (by kernel_rfl) ?_
  refine AG.ren 57 2 (st' := ⟨mkT 21 [(2, .s 1 0 16 16), (3, .s 2 0 (List.length m - 16) (List.length m - 16))], [(0, .view (List.map (Value.int .u8) m)), (1, .own (ar8 16 fun j => bAt m (↑(0 + j) : Int))), (2, .own (ar8 (List.length m - 16) fun j => bAt m (↑(16 + j) : Int)))], 58⟩) (by kernel_rfl) (by kernel_rfl) ?_
  refine AG.fin ([.s 1 0 16 16, .s 2 0 (List.length m - 16) (List.length m - 16)]) Go.Proofs.Tryd.f44 fn44 (.inr ⟨_, rfl⟩) (obs := []) (by kernel_rfl) trivial (by kernel_rfl) ⟨(by kernel_rfl), (by kernel_rfl), trivial⟩ (by kernel_rfl)
end Go.Proofs.YtdfbcdgneboilaaDoor.Ab
