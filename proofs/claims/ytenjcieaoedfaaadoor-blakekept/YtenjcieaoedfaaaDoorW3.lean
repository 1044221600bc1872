/- Own: the law BlakeParts followed (no statement is proved here). -/
import Derived.Test.YtenjcieaoedfaaaDoorK12
import Derived.Test.YtenjcieaoedfaaaDoorK8
import Derived.Test.YtenjcieaoedfaaaDoorW0
import Derived.KernelRfl
namespace Go.Proofs.YtenjcieaoedfaaaDoor.Ab
open Go.Proofs
set_option linter.unusedSimpArgs false
set_option linter.unusedVariables false
-- AGLIM=12
set_option maxRecDepth 4000
theorem fn3 : Tryd.prog.funcs[3]? = some Tryd.f3 := by kernel_rfl
theorem fn5 : Tryd.prog.funcs[5]? = some Tryd.f5 := by kernel_rfl
/-- Parts: a size, a key, rows. -/
abbrev partsV (size : Int) (n m : Nat) : AV := .agg [.ex (.int .i64 size), .sv 0 0 n, .sv 1 0 m]
def rightV (size : Int) (n : Nat) (rs : List (List Int)) : Bool := decide (1 ≤ size) && decide (size ≤ 64) && decide (n ≤ 64) && decide (rs.length ≤ 20) && rs.all (fun r => decide (r.length ≤ 300))
theorem right_ok (size : Int) (n : Nat) (cs : List Value) (rs : List (List Int)) (hl : rs.length ≤ 9223372036854775807) : CallOK Tryd.prog (fun _ => none) 5 [partsV size n rs.length] [(0, .view cs), (1, .rows (cellsR rs))] { val := .ex (.bool (rightV size n rs)) } := by
  have hlen := len_cellsR rs
  have hget := get_cellsR rs
  generalize cellsR rs = L at *
  by_cases h1 : size < 1
  · have g1 : decide (size < 1) = true := decide_eq_true h1
    have hf : rightV size n rs = false := by unfold rightV; rw [decide_eq_false (show ¬ 1 ≤ size by omega)]; simp
    rw [hf]
    refine CallOK.from0 hmix Tryd.f5 2 fn5 (by kernel_rfl) (by kernel_rfl) (fun w ρ h1 h2 => ?_)
    refine AG.rs 8 [([], []), ([], [(2, { val := .ex (.bool true) })]), ([], [])] [2] [0, 1] 2 (todo' := [.code (sub (codeOf Tryd.f5) [1, 0, 1, 0, 1]), .code (sub (codeOf Tryd.f5) [1, 1])]) (st' := ⟨mkT 38 [(2, .ex (.bool false))], [(0, .view cs), (1, .rows L)], 2⟩) (obs := [Ob.eq (.ex (.bool (decide (size < 1)))) (.ex (.bool true))]) (by kernel_rfl) (by kernel_rfl) ⟨(by simp only [Ob.holds, g1]), trivial⟩ ?_
    refine AG.fin ([.ex (.bool false)]) Go.Proofs.Tryd.f5 fn5 (.inr ⟨_, rfl⟩) (obs := []) (by kernel_rfl) trivial (by kernel_rfl) trivial (by kernel_rfl)
  have g1 : decide (size < 1) = false := decide_eq_false h1
  by_cases h2 : size > 64
  · have g2 : decide (size > 64) = true := decide_eq_true h2
    have hf : rightV size n rs = false := by unfold rightV; rw [decide_eq_false (show ¬ size ≤ 64 by omega)]; simp
    rw [hf]
    refine CallOK.from0 hmix Tryd.f5 2 fn5 (by kernel_rfl) (by kernel_rfl) (fun w ρ h1 h2 => ?_)
    refine AG.rs 8 [([], []), ([], [(2, { val := .ex (.bool false) }), (6, { val := .ex (.bool true) })]), ([], [])] [2] [0, 1] 2 (todo' := [.code (sub (codeOf Tryd.f5) [1, 0, 1, 0, 1]), .code (sub (codeOf Tryd.f5) [1, 1])]) (st' := ⟨mkT 38 [(2, .ex (.bool false))], [(0, .view cs), (1, .rows L)], 2⟩) (obs := [Ob.eq (.ex (.bool (decide (size < 1)))) (.ex (.bool false)), Ob.eq (.ex (.bool (decide (size > 64)))) (.ex (.bool true))]) (by kernel_rfl) (by kernel_rfl) ⟨(by simp only [Ob.holds, g1]), (by simp only [Ob.holds, g2]), trivial⟩ ?_
    refine AG.fin ([.ex (.bool false)]) Go.Proofs.Tryd.f5 fn5 (.inr ⟨_, rfl⟩) (obs := []) (by kernel_rfl) trivial (by kernel_rfl) trivial (by kernel_rfl)
  have g2 : decide (size > 64) = false := decide_eq_false h2
  by_cases h3 : 64 < n
  · have g3 : decide ((n : Int) > 64) = true := decide_eq_true (by omega)
    have hf : rightV size n rs = false := by unfold rightV; rw [decide_eq_false (show ¬ n ≤ 64 by omega)]; simp
    rw [hf]
    refine CallOK.from0 hmix Tryd.f5 2 fn5 (by kernel_rfl) (by kernel_rfl) (fun w ρ h1 h2 => ?_)
    refine AG.rs 8 [([], []), ([], [(2, { val := .ex (.bool false) }), (6, { val := .ex (.bool false) }), (12, { val := .ex (.bool true) })]), ([], [])] [2] [0, 1] 2 (todo' := [.code (sub (codeOf Tryd.f5) [1, 0, 1, 0, 1]), .code (sub (codeOf Tryd.f5) [1, 1])]) (st' := ⟨mkT 38 [(2, .ex (.bool false))], [(0, .view cs), (1, .rows L)], 2⟩) (obs := [Ob.eq (.ex (.bool (decide (size < 1)))) (.ex (.bool false)), Ob.eq (.ex (.bool (decide (size > 64)))) (.ex (.bool false)), Ob.eq (.ex (.bool (decide ((↑n : Int) > 64)))) (.ex (.bool true))]) (by kernel_rfl) (by kernel_rfl) ⟨(by simp only [Ob.holds, g1]), (by simp only [Ob.holds, g2]), (by simp only [Ob.holds, g3]), trivial⟩ ?_
    refine AG.fin ([.ex (.bool false)]) Go.Proofs.Tryd.f5 fn5 (.inr ⟨_, rfl⟩) (obs := []) (by kernel_rfl) trivial (by kernel_rfl) trivial (by kernel_rfl)
  have g3 : decide ((n : Int) > 64) = false := decide_eq_false (by omega)
  by_cases h4 : 20 < rs.length
  · have g4 : decide ((rs.length : Int) > 20) = true := decide_eq_true (by omega)
    have hf : rightV size n rs = false := by unfold rightV; rw [decide_eq_false (show ¬ rs.length ≤ 20 by omega)]; simp
    rw [hf]
    refine CallOK.from0 hmix Tryd.f5 2 fn5 (by kernel_rfl) (by kernel_rfl) (fun w ρ h1 h2 => ?_)
    refine AG.rs 8 [([], []), ([], [(2, { val := .ex (.bool false) }), (6, { val := .ex (.bool false) }), (12, { val := .ex (.bool false) }), (18, { val := .ex (.bool true) })]), ([], [])] [2] [0, 1] 2 (todo' := [.code (sub (codeOf Tryd.f5) [1, 0, 1, 0, 1]), .code (sub (codeOf Tryd.f5) [1, 1])]) (st' := ⟨mkT 38 [(2, .ex (.bool false))], [(0, .view cs), (1, .rows L)], 2⟩) (obs := [Ob.eq (.ex (.bool (decide (size < 1)))) (.ex (.bool false)), Ob.eq (.ex (.bool (decide (size > 64)))) (.ex (.bool false)), Ob.eq (.ex (.bool (decide ((↑n : Int) > 64)))) (.ex (.bool false)), Ob.eq (.ex (.bool (decide ((↑(List.length rs) : Int) > 20)))) (.ex (.bool true))]) (by kernel_rfl) (by kernel_rfl) ⟨(by simp only [Ob.holds, g1]), (by simp only [Ob.holds, g2]), (by simp only [Ob.holds, g3]), (by simp only [Ob.holds, g4]), trivial⟩ ?_
    refine AG.fin ([.ex (.bool false)]) Go.Proofs.Tryd.f5 fn5 (.inr ⟨_, rfl⟩) (obs := []) (by kernel_rfl) trivial (by kernel_rfl) trivial (by kernel_rfl)
  have g4 : decide ((rs.length : Int) > 20) = false := decide_eq_false (by omega)
  have hR : rightV size n rs = rs.all (fun r => decide (r.length ≤ 300)) := by
    unfold rightV; rw [decide_eq_true (show 1 ≤ size by omega), decide_eq_true (show size ≤ 64 by omega), decide_eq_true (show n ≤ 64 by omega), decide_eq_true (show rs.length ≤ 20 by omega)]; simp
  refine CallOK.from0 hmix Tryd.f5 2 fn5 (by kernel_rfl) (by kernel_rfl) (fun w ρ h1 h2 => ?_)
  refine AG.rs 11 [([], []), ([], [(2, { val := .ex (.bool false) }), (6, { val := .ex (.bool false) }), (12, { val := .ex (.bool false) }), (18, { val := .ex (.bool false) })]), ([], [])] [1, 3] [0, 1, 2] 3 (todo' := [.code (sub (codeOf Tryd.f5) [1, 1, 0, 1, 0]), .inBlock 0, .code (sub (codeOf Tryd.f5) [1, 1, 1])]) (st' := ⟨mkT 38 [(1, .p 2 0), (3, .ex (.int .i64 0))], [(0, .view cs), (1, .rows L), (2, .mix [.ex (.int .i64 size), .sv 0 0 n, .sv 1 0 (List.length rs)])], 3⟩) (obs := [Ob.eq (.ex (.bool (decide (size < 1)))) (.ex (.bool false)), Ob.eq (.ex (.bool (decide (size > 64)))) (.ex (.bool false)), Ob.eq (.ex (.bool (decide ((↑n : Int) > 64)))) (.ex (.bool false)), Ob.eq (.ex (.bool (decide ((↑(List.length rs) : Int) > 20)))) (.ex (.bool false))]) (by kernel_rfl) (by kernel_rfl) ⟨(by simp only [Ob.holds, g1]), (by simp only [Ob.holds, g2]), (by simp only [Ob.holds, g3]), (by simp only [Ob.holds, g4]), trivial⟩ ?_
  refine AG.rk 1 [1, 3] [0, 1, 2] 3 (todo' := [.code (sub (codeOf Tryd.f5) [1, 1, 0, 1, 0, 0]), .inLoop (sub (codeOf Tryd.f5) [1, 1, 0, 1, 0, 0]), .inBlock 0, .code (sub (codeOf Tryd.f5) [1, 1, 1])]) (st' := ⟨mkT 38 [(1, .p 2 0), (3, .ex (.int .i64 0))], [(0, .view cs), (1, .rows L), (2, .mix [.ex (.int .i64 size), .sv 0 0 n, .sv 1 0 (List.length rs)])], 3⟩) (by kernel_rfl) (by kernel_rfl) ?_
  refine AG.re 2 (.mix [.ex (.int .i64 size), .sv 0 0 n, .sv 1 0 rs.length]) (by kernel_rfl) ?_
  refine AG.indE (α := {i : Nat // i ≤ rs.length ∧ ∀ q, q < i → (rs.getD q []).length ≤ 300}) (fun i => rs.length - i.1)
    (fun i => ⟨mkT 38 [(1, .p 2 0), (3, .ex (.int .i64 (i.1 : Int)))], [(0, .view cs), (1, .rows L), (2, .mix [.ex (.int .i64 size), .sv 0 0 n, .sv 1 0 rs.length])], 3⟩) ⟨0, Nat.zero_le _, fun q hq => absurd hq (Nat.not_lt_zero _)⟩ (by kernel_rfl) ?_
  rintro ⟨i, hi, hq⟩ ih
  simp only at hi hq ih ⊢
  by_cases hlt : i < rs.length
  · have g5 : decide ((i : Int) < (rs.length : Int)) = true := decide_eq_true (by omega)
    have hli : i < L.length := by rw [hlen]; exact hlt
    have e0 : L.getD (0 + (i : Int).toNat * 1) [] = (rs.getD i []).map (Value.int .u8) := by rw [Nat.zero_add, Nat.mul_one, Int.toNat_natCast]; exact hget i hlt
    have e1 : (L.getD (0 + (i : Int).toNat * 1) []).length = (rs.getD i []).length := by rw [e0, List.length_map]
    by_cases h300 : (rs.getD i []).length ≤ 300
    · have g6 : decide (((rs.getD i []).length : Int) > 300) = false := decide_eq_false (by omega)
      have w1 : IntKind.i64.wrap ((i : Int) + 1) = ((i + 1 : Nat) : Int) := by rw [wrap64_id _ (by omega) (by omega)]; omega
      refine AG.rs 14 [([], [(4, { val := .ex (.bool true) })]), ([3], [(4, { val := .sv 39 0 (List.length (List.getD rs i [])) }), (6, { val := .ex (.bool false) })]), ([], [(1, { val := .ex (.int .i64 (↑(i + 1) : Int)) })])] [1, 3] [0, 1, 2] 3 (todo' := [.code (sub (codeOf Tryd.f5) [1, 1, 0, 1, 0, 0]), .inLoop (sub (codeOf Tryd.f5) [1, 1, 0, 1, 0, 0]), .inBlock 0, .code (sub (codeOf Tryd.f5) [1, 1, 1])]) (st' := ⟨mkT 38 [(1, .p 2 0), (3, .ex (.int .i64 (↑(i + 1) : Int)))], [(0, .view cs), (1, .rows L), (2, .mix [.ex (.int .i64 size), .sv 0 0 n, .sv 1 0 (List.length rs)])], 3⟩) (obs := [Ob.eq (.ex (.bool (decide ((↑i : Int) < (↑(List.length rs) : Int))))) (.ex (.bool true)), Ob.ix (↑i : Int) (List.length rs), Ob.eq (.sv 39 0 (List.length (List.getD L (0 + Int.toNat (↑i : Int) * 1) []))) (.sv 39 0 (List.length (List.getD rs i []))), Ob.le (0 + Int.toNat (↑i : Int) * 1 + 1) (List.length L), Ob.eq (.ex (.bool (decide ((↑(List.length (List.getD rs i [])) : Int) > 300)))) (.ex (.bool false)), Ob.eq (.ex (.int .i64 (IntKind.wrap .i64 ((↑i : Int) + 1)))) (.ex (.int .i64 (↑(i + 1) : Int)))]) (by kernel_rfl) (by kernel_rfl) ⟨(by simp only [Ob.holds, g5]), (by (simp only [Ob.holds]; omega)), (by simp only [Ob.holds, e1]), (by (simp only [Ob.holds]; omega)), (by simp only [Ob.holds, g6]), (by simp only [Ob.holds, w1]), trivial⟩ ?_
      exact ih ⟨i + 1, hlt, fun q hq' => by
        rcases Nat.lt_or_ge q i with h | h
        · exact hq q h
        · rw [show q = i by omega]; exact h300⟩ (by simp only; omega)
    · have g6 : decide (((rs.getD i []).length : Int) > 300) = true := decide_eq_true (by omega)
      have hf : rightV size n rs = false := by
        rw [hR]
        refine List.all_eq_false.2 ⟨rs.getD i [], ?_, by simpa using h300⟩
        rw [List.getD_eq_getElem?_getD, List.getElem?_eq_getElem hlt]; exact List.getElem_mem _
      rw [hf]
      refine AG.rs 12 [([], [(4, { val := .ex (.bool true) })]), ([3], [(4, { val := .sv 39 0 (List.length (List.getD rs i [])) }), (6, { val := .ex (.bool true) })]), ([], [])] [2] [0, 1] 2 (todo' := [.code (sub (codeOf Tryd.f5) [1, 0, 1, 0, 1]), .inBlock 1, .code (sub (codeOf Tryd.f5) [1, 1, 0, 1, 0, 0, 1, 1]), .inLoop (sub (codeOf Tryd.f5) [1, 1, 0, 1, 0, 0]), .inBlock 0, .code (sub (codeOf Tryd.f5) [1, 1, 1])]) (st' := ⟨mkT 38 [(2, .ex (.bool false))], [(0, .view cs), (1, .rows L)], 2⟩) (obs := [Ob.eq (.ex (.bool (decide ((↑i : Int) < (↑(List.length rs) : Int))))) (.ex (.bool true)), Ob.ix (↑i : Int) (List.length rs), Ob.eq (.sv 39 0 (List.length (List.getD L (0 + Int.toNat (↑i : Int) * 1) []))) (.sv 39 0 (List.length (List.getD rs i []))), Ob.le (0 + Int.toNat (↑i : Int) * 1 + 1) (List.length L), Ob.eq (.ex (.bool (decide ((↑(List.length (List.getD rs i [])) : Int) > 300)))) (.ex (.bool true))]) (by kernel_rfl) (by kernel_rfl) ⟨(by simp only [Ob.holds, g5]), (by (simp only [Ob.holds]; omega)), (by simp only [Ob.holds, e1]), (by (simp only [Ob.holds]; omega)), (by simp only [Ob.holds, g6]), trivial⟩ ?_
      refine AG.fin ([.ex (.bool false)]) Go.Proofs.Tryd.f5 fn5 (.inr ⟨_, rfl⟩) (obs := []) (by kernel_rfl) trivial (by kernel_rfl) trivial (by kernel_rfl)
  · have g5 : decide ((i : Int) < (rs.length : Int)) = false := decide_eq_false (by omega)
    have hf : rightV size n rs = true := by
      rw [hR]
      refine List.all_eq_true.2 fun r hr => ?_
      obtain ⟨q, hq1, rfl⟩ := List.mem_iff_getElem.1 hr
      have := hq q (by omega)
      rw [List.getD_eq_getElem?_getD, List.getElem?_eq_getElem hq1] at this
      simpa using this
    rw [hf]
    refine AG.rs 7 [([], [(4, { val := .ex (.bool false) })]), ([], [])] [2] [0, 1] 2 (todo' := [.code (sub (codeOf Tryd.f5) [1, 0, 1, 0, 1])]) (st' := ⟨mkT 38 [(2, .ex (.bool true))], [(0, .view cs), (1, .rows L)], 2⟩) (obs := [Ob.eq (.ex (.bool (decide ((↑i : Int) < (↑(List.length rs) : Int))))) (.ex (.bool false))]) (by kernel_rfl) (by kernel_rfl) ⟨(by simp only [Ob.holds, g5]), trivial⟩ ?_
    refine AG.fin ([.ex (.bool true)]) Go.Proofs.Tryd.f5 fn5 (.inr ⟨_, rfl⟩) (obs := []) (by kernel_rfl) trivial (by kernel_rfl) trivial (by kernel_rfl)
/-- What a right one has. -/
theorem right_has {size : Int} {n : Nat} {rs : List (List Int)} (h : rightV size n rs = true) : (1 ≤ size ∧ size ≤ 64) ∧ n ≤ 64 ∧ rs.length ≤ 20 ∧ ∀ i, i < rs.length → (rs.getD i []).length ≤ 300 ∧ rs.getD i [] ∈ rs := by
  unfold rightV at h
  simp only [Bool.and_eq_true, List.all_eq_true, decide_eq_true_eq] at h
  obtain ⟨⟨⟨⟨a, b⟩, c⟩, d⟩, e⟩ := h
  refine ⟨⟨a, b⟩, c, d, fun i hi => ?_⟩
  have hm : rs.getD i [] ∈ rs := by rw [List.getD_eq_getElem?_getD, List.getElem?_eq_getElem hi]; exact List.getElem_mem _
  exact ⟨e _ hm, hm⟩
theorem bparts_ok (size : Int) (key : List Int) (rs : List (List Int)) (hl : rs.length ≤ 9223372036854775807) : CallOK Tryd.prog (fun g => [(0, 2), (1, 3)].lookup g) 3 [partsV size key.length rs.length] [(0, .view (key.map (Value.int .u8))), (1, .rows (cellsR rs)), (2, .view (kfirst.map (Value.int .u64))), (3, .view krcs)] { val := .ex (.bool true) } := by
  have ca := awake06
  obtain ⟨rcs, hr⟩ : ∃ rcs, rcs = krcs := ⟨_, rfl⟩
  rw [← hr] at ca ⊢
  have hlen := len_cellsR rs
  have hget := get_cellsR rs
  have cr := right_ok size key.length (key.map (Value.int .u8)) rs hl
  generalize cellsR rs = L at *
  cases hright : rightV size key.length rs with
  | false =>
    rw [hright] at cr
    refine CallOK.from hmix Tryd.f3 4 fn3 (by kernel_rfl) (by kernel_rfl) (fun wl ρ h1 h2 => ?_)
    refine AG.rs 8 [([], []), ([], [(1, useR [(0, 0, 0), (1, 1, 0)] 16 ({ val := .ex (.bool false) }))]), ([], [])] [2] [0, 1, 2, 3] 4 (todo' := [.code (sub (codeOf Tryd.f3) [1, 0, 1, 0, 1]), .code (sub (codeOf Tryd.f3) [1, 1])]) (st' := ⟨mkT 83 [(2, .ex (.bool true))], [(0, .view (List.map (Value.int .u8) key)), (1, .rows L), (2, .view [Value.int .u64 7640891576956012808, Value.int .u64 13503953896175478587, Value.int .u64 4354685564936845355, Value.int .u64 11912009170470909681, Value.int .u64 5840696475078001361, Value.int .u64 11170449401992604703, Value.int .u64 2270897969802886507, Value.int .u64 6620516959819538809]), (3, .view rcs)], 4⟩) (obs := [Ob.call (fun g => List.lookup g [(0, 2), (1, 3)]) 5 [.agg [.ex (.int .i64 size), .sv 0 0 (List.length key), .sv 1 0 (List.length rs)]] [(0, .view (List.map (Value.int .u8) key)), (1, .rows L)] (useR [(0, 0, 0), (1, 1, 0)] 16 { val := .ex (.bool false) })]) (by kernel_rfl) (by kernel_rfl) ⟨(CallOK.at0 [(0, 0, 0), (1, 1, 0)] 16 (cr ) (.cons (.aggL (.cons (.ex _) (.cons (.vv rfl) (.cons (.vv rfl) .nil)))) .nil) (.cons rfl rfl ⟨_, rfl, (by exact cov_all _)⟩ (.cons rfl rfl ⟨rfl, rfl⟩ .nil)) (by kernel_rfl)), trivial⟩ ?_
    refine AG.fin ([.ex (.bool true)]) Go.Proofs.Tryd.f3 fn3 (.inr ⟨_, rfl⟩) (obs := []) (by kernel_rfl) trivial (by kernel_rfl) trivial (by kernel_rfl)
  | true =>
    rw [hright] at cr
    obtain ⟨hs, hk, h20, h300⟩ := right_has hright
    obtain ⟨n, hn⟩ := Int.eq_ofNat_of_zero_le (show 0 ≤ size by omega)
    have cn := bnew_ok size hs key hk
    refine CallOK.from hmix Tryd.f3 4 fn3 (by kernel_rfl) (by kernel_rfl) (fun wl ρ h1 h2 => ?_)
    obtain ⟨h0, hh0⟩ : ∃ f, f = kh0 size key.length := ⟨_, rfl⟩
    obtain ⟨KD, hKD⟩ : ∃ D, D = keyD key := ⟨_, rfl⟩
    rw [← hh0, ← hKD] at cn
    obtain ⟨S0, hS0⟩ : ∃ S, S = hS size h0 KD := ⟨_, rfl⟩
    rw [← hS0] at cn
    refine AG.rs 20 [([], []), ([], [(1, useR [(0, 0, 0), (1, 1, 0)] 16 ({ val := .ex (.bool true) }))]), ([], [(4, useR [(0, 0, 0), (1, 2, 0)] 40 ({ val := .tup [.p 2 0, .ex (.int .i64 0)], upd := [(2, .own S0)], nks := [2] }))]), ([], []), ([], []), ([], [])] [1, 3, 5, 6] [0, 1, 2, 3, 4, 40] 41 (todo' := [.code (sub (codeOf Tryd.f3) [1, 1, 1, 1, 1, 0, 1, 0]), .inBlock 0, .code (sub (codeOf Tryd.f3) [1, 1, 1, 1, 1, 1])]) (st' := ⟨mkT 83 [(1, .p 4 0), (3, .p 40 0), (5, .ex (.slice none 0 0)), (6, .ex (.int .i64 0))], [(0, .view (List.map (Value.int .u8) key)), (1, .rows L), (2, .view [Value.int .u64 7640891576956012808, Value.int .u64 13503953896175478587, Value.int .u64 4354685564936845355, Value.int .u64 11912009170470909681, Value.int .u64 5840696475078001361, Value.int .u64 11170449401992604703, Value.int .u64 2270897969802886507, Value.int .u64 6620516959819538809]), (3, .view rcs), (4, .mix [.ex (.int .i64 size), .sv 0 0 (List.length key), .sv 1 0 (List.length rs)]), (40, .own S0)], 41⟩) (obs := [Ob.call (fun g => List.lookup g [(0, 2), (1, 3)]) 5 [.agg [.ex (.int .i64 size), .sv 0 0 (List.length key), .sv 1 0 (List.length rs)]] [(0, .view (List.map (Value.int .u8) key)), (1, .rows L)] (useR [(0, 0, 0), (1, 1, 0)] 16 { val := .ex (.bool true) }), Ob.call (fun g => List.lookup g [(0, 2), (1, 3)]) 6 [.ex (.int .i64 size), .sv 0 0 (List.length key)] [(0, .view (List.map (Value.int .u8) key)), (2, .view [Value.int .u64 7640891576956012808, Value.int .u64 13503953896175478587, Value.int .u64 4354685564936845355, Value.int .u64 11912009170470909681, Value.int .u64 5840696475078001361, Value.int .u64 11170449401992604703, Value.int .u64 2270897969802886507, Value.int .u64 6620516959819538809])] (useR [(0, 0, 0), (1, 2, 0)] 40 { val := .tup [.p 2 0, .ex (.int .i64 0)], upd := [(2, .own S0)], nks := [2] })]) (by kernel_rfl) (by kernel_rfl) ⟨(CallOK.at0 [(0, 0, 0), (1, 1, 0)] 16 (cr ) (.cons (.aggL (.cons (.ex _) (.cons (.vv rfl) (.cons (.vv rfl) .nil)))) .nil) (.cons rfl rfl ⟨_, rfl, (by exact cov_all _)⟩ (.cons rfl rfl ⟨rfl, rfl⟩ .nil)) (by kernel_rfl)), (CallOK.at [(0, 0, 0), (1, 2, 0)] 40 (cn ) (.cons (.ex _) (.cons (.vv rfl) .nil)) (.cons rfl rfl ⟨_, rfl, (by exact cov_all _)⟩ (.cons rfl rfl ⟨_, rfl, (by exact cov_all _)⟩ .nil)) (by kernel_rfl)), trivial⟩ ?_
    refine AG.rk 1 [1, 3, 5, 6] [0, 1, 2, 3, 4, 40] 41 (todo' := [.code (sub (codeOf Tryd.f3) [1, 1, 1, 1, 1, 0, 1, 0, 0]), .inLoop (sub (codeOf Tryd.f3) [1, 1, 1, 1, 1, 0, 1, 0, 0]), .inBlock 0, .code (sub (codeOf Tryd.f3) [1, 1, 1, 1, 1, 1])]) (st' := ⟨mkT 83 [(1, .p 4 0), (3, .p 40 0), (5, .ex (.slice none 0 0)), (6, .ex (.int .i64 0))], [(0, .view (List.map (Value.int .u8) key)), (1, .rows L), (2, .view [Value.int .u64 7640891576956012808, Value.int .u64 13503953896175478587, Value.int .u64 4354685564936845355, Value.int .u64 11912009170470909681, Value.int .u64 5840696475078001361, Value.int .u64 11170449401992604703, Value.int .u64 2270897969802886507, Value.int .u64 6620516959819538809]), (3, .view rcs), (4, .mix [.ex (.int .i64 size), .sv 0 0 (List.length key), .sv 1 0 (List.length rs)]), (40, .own S0)], 41⟩) (by kernel_rfl) (by kernel_rfl) ?_
    have hKDl : KD.length ≤ 128 := by rw [hKD]; unfold keyD; split <;> simp <;> omega
    refine AG.nilrow 5 rfl rfl ?_
    rewrite [hS0]
    rw [← List.append_nil KD]
    refine AG.re 4 (.mix [.ex (.int .i64 size), .sv 0 0 key.length, .sv 1 0 rs.length]) (by kernel_rfl) ?_
    refine AG.keep [1, 3, 5, 6] [0, 1, 2, 3, 4, 40, 41] 42 rfl (by kernel_rfl) ?_
    have eX : ∀ x : List UInt8, (x == x) = true := fun x => beq_self_eq_true x
    refine AG.indE (α := {x : Nat × List Int // x.1 ≤ rs.length ∧ x.2.length ≤ 300 * x.1}) (fun x => rs.length - x.1.1)
      (fun x => ⟨mkT 83 [(1, .p 4 0), (3, .p 40 0), (5, .o 41 0 x.1.2.length), (6, .ex (.int .i64 (x.1.1 : Int)))], [(0, .view (key.map (Value.int .u8))), (1, .rows L), (2, .view (kfirst.map (Value.int .u64))), (3, .view rcs), (4, .mix [.ex (.int .i64 size), .sv 0 0 key.length, .sv 1 0 rs.length]), (40, .own (hS size h0 (KD ++ x.1.2))), (41, .row (x.1.2.map (Value.int .u8)))], 42⟩) ⟨(0, []), Nat.zero_le _, Nat.zero_le _⟩ (by kernel_rfl) ?_
    rintro ⟨⟨i, pre⟩, hi, hpl⟩ ih
    simp only at hi hpl ih ⊢
    by_cases hlt : i < rs.length
    · have g1 : decide ((i : Int) < (rs.length : Int)) = true := decide_eq_true (by omega)
      obtain ⟨row, hrow⟩ : ∃ row, row = rs.getD i [] := ⟨_, rfl⟩
      have hr300 := (h300 i hlt).1
      have e0 := hget i hlt
      rw [← hrow] at hr300 e0
      have hli : i < L.length := by rw [hlen]; exact hlt
      have e1 : L.getD (0 + (i : Int).toNat * 1) [] = row.map (Value.int .u8) := by rw [Nat.zero_add, Nat.mul_one, Int.toNat_natCast]; exact e0
      have e2 : (L.getD (0 + (i : Int).toNat * 1) []).length = row.length := by rw [e1, List.length_map]
      have hone : (L.getD (0 + (i : Int).toNat * 1) []).all (·.oneCell') = true := by rw [e1]; exact one_map _ _
      have hone2 : (List.take row.length (List.drop 0 (L.getD (0 + (i : Int).toNat * 1) []))).all (·.oneCell') = true := one_take (one_drop hone _) _
      have eA : List.map (Value.int .u8) pre ++ List.take row.length (List.drop 0 (L.getD (0 + (i : Int).toNat * 1) [])) = (pre ++ row).map (Value.int .u8) := by
        rw [List.drop_zero, e1, List.take_of_length_le (by simp), List.map_append]
      have eB : (List.map (Value.int .u8) pre).length + (List.take row.length (List.drop 0 (L.getD (0 + (i : Int).toNat * 1) []))).length = (pre ++ row).length := by
        rw [List.drop_zero, e1, List.take_of_length_le (by simp)]; simp
      have w5 : IntKind.i64.wrap ((i : Int) + 1) = ((i + 1 : Nat) : Int) := by rw [wrap64_id _ (by omega) (by omega)]; omega
      have hpr : (pre ++ row).length ≤ 300 * (i + 1) := by rw [List.length_append]; omega
      have c1 := write_ok size h0 (KD ++ pre) row (by rw [List.length_append]; omega) (by omega) hr
      rw [List.append_assoc] at c1
      have c2 := bsum_ok size hs n hn.symm key (pre ++ row) hk (by omega) hr
      have c3 := hsum_ok size hs n hn.symm h0 (KD ++ (pre ++ row)) (by rw [List.length_append]; omega) hr
      rw [← hh0, ← hKD] at c2
      have ihh := ih ⟨(i + 1, pre ++ row), hlt, hpr⟩ (by simp only; omega)
      simp only at ihh
      generalize hS size h0 (KD ++ (pre ++ row)) = S2 at *
      generalize hS size h0 (KD ++ pre) = S1 at *
      generalize (fun i => putw (kend h0 (KD ++ (pre ++ row)) (i / 8)) (i % 8)) = P at *
      have lP : (ar8 n P).length = n := length_ar8 _ _
      have eT : List.take n (List.drop 0 (ar8 n P)) = ar8 n P := by rw [List.drop_zero]; exact List.take_of_length_le (by omega)
      rw [← e1] at c1
      clear ih
      refine AG.rs 11 [([], [(4, { val := .ex (.bool true) })]), ([4], [(5, { val := .sv 82 0 (List.length row) }), (6, useR [(0, 40, 0), (1, 82, 0), (2, 2, 0), (3, 3, 0)] 86 ({ val := .tup [], upd := [(0, .own S2)], wks := [0] }))]), ([4, 6], [(5, { val := .sv 110 0 (List.length row) })])] [1, 3, 5, 6] [0, 1, 2, 3, 4, 40, 114] 115 (todo' := [.code (sub (codeOf Tryd.f3) [1, 1, 1, 1, 1, 0, 1, 0, 0, 1, 0, 0, 1, 1]), .inBlock 1, .code (sub (codeOf Tryd.f3) [1, 1, 1, 1, 1, 0, 1, 0, 0, 1, 1]), .inLoop (sub (codeOf Tryd.f3) [1, 1, 1, 1, 1, 0, 1, 0, 0]), .inBlock 0, .code (sub (codeOf Tryd.f3) [1, 1, 1, 1, 1, 1])]) (st' := ⟨mkT 83 [(1, .p 4 0), (3, .p 40 0), (5, .o 114 0 (List.length (List.map (Value.int .u8) pre) + List.length (List.take (List.length row) (List.drop 0 (List.getD L (0 + Int.toNat (↑i : Int) * 1) []))))), (6, .ex (.int .i64 (↑i : Int)))], [(0, .view (List.map (Value.int .u8) key)), (1, .rows L), (2, .view [Value.int .u64 7640891576956012808, Value.int .u64 13503953896175478587, Value.int .u64 4354685564936845355, Value.int .u64 11912009170470909681, Value.int .u64 5840696475078001361, Value.int .u64 11170449401992604703, Value.int .u64 2270897969802886507, Value.int .u64 6620516959819538809]), (3, .view rcs), (4, .mix [.ex (.int .i64 size), .sv 0 0 (List.length key), .sv 1 0 (List.length rs)]), (40, .own S2), (114, .row (List.map (Value.int .u8) pre ++ List.take (List.length row) (List.drop 0 (List.getD L (0 + Int.toNat (↑i : Int) * 1) []))))], 115⟩) (obs := [Ob.eq (.ex (.bool (decide ((↑i : Int) < (↑(List.length rs) : Int))))) (.ex (.bool true)), Ob.ix (↑i : Int) (List.length rs), Ob.eq (.sv 82 0 (List.length (List.getD L (0 + Int.toNat (↑i : Int) * 1) []))) (.sv 82 0 (List.length row)), Ob.le (0 + Int.toNat (↑i : Int) * 1 + 1) (List.length L), Ob.call (fun g => List.lookup g [(0, 2), (1, 3)]) 7 [.p 40 0, .sv 82 0 (List.length row)] [(40, .own S1), (82, .view (List.getD L (0 + Int.toNat (↑i : Int) * 1) [])), (2, .view [Value.int .u64 7640891576956012808, Value.int .u64 13503953896175478587, Value.int .u64 4354685564936845355, Value.int .u64 11912009170470909681, Value.int .u64 5840696475078001361, Value.int .u64 11170449401992604703, Value.int .u64 2270897969802886507, Value.int .u64 6620516959819538809]), (3, .view rcs)] (useR [(0, 40, 0), (1, 82, 0), (2, 2, 0), (3, 3, 0)] 86 { val := .tup [], upd := [(0, .own S2)], wks := [0] }), Ob.ix (↑i : Int) (List.length rs), Ob.eq (.sv 110 0 (List.length (List.getD L (0 + Int.toNat (↑i : Int) * 1) []))) (.sv 110 0 (List.length row)), Ob.le (0 + Int.toNat (↑i : Int) * 1 + 1) (List.length L), Ob.le ((List.length (List.map (Value.int .u8) pre) + List.length (List.take (List.length row) (List.drop 0 (List.getD L (0 + Int.toNat (↑i : Int) * 1) [])))) * 1) 140737488355328, Ob.le (List.length (List.map (Value.int .u8) pre) + List.length (List.take (List.length row) (List.drop 0 (List.getD L (0 + Int.toNat (↑i : Int) * 1) [])))) 140737488355328, Ob.one (List.take (List.length row) (List.drop 0 (List.getD L (0 + Int.toNat (↑i : Int) * 1) []))), Ob.le (List.length pre) (List.length (List.map (Value.int .u8) pre)), Ob.le (List.length (List.map (Value.int .u8) pre)) (List.length pre), Ob.le (0 + List.length row) (List.length (List.getD L (0 + Int.toNat (↑i : Int) * 1) []))]) (by kernel_rfl) (by kernel_rfl) ⟨(by simp only [Ob.holds, g1]), (by (simp only [Ob.holds]; omega)), (by simp only [Ob.holds, e2]), (by (simp only [Ob.holds]; omega)), (CallOK.at [(0, 40, 0), (1, 82, 0), (2, 2, 0), (3, 3, 0)] 86 (c1 ) (.cons (.p rfl) (.cons (.vv rfl) .nil)) (.cons rfl rfl ⟨rfl, rfl⟩ (.cons rfl rfl ⟨_, rfl, (by exact cov_all _)⟩ (.cons rfl rfl ⟨_, rfl, (by exact cov_all _)⟩ (.cons rfl rfl ⟨_, rfl, (by exact cov_all _)⟩ .nil)))) (by kernel_rfl)), (by (simp only [Ob.holds]; omega)), (by simp only [Ob.holds, e2]), (by (simp only [Ob.holds]; omega)), (by (simp only [Ob.holds]; omega)), (by (simp only [Ob.holds]; omega)), (by (simp only [Ob.holds]; omega)), (by (simp [Ob.holds]; done)), (by (simp [Ob.holds]; done)), (by (simp only [Ob.holds]; omega)), trivial⟩ ?_
      rewrite [eA, eB]
      refine AG.ren 114 41 rfl (by kernel_rfl) ?_
      refine AG.keep [1, 3, 5, 6] [0, 1, 2, 3, 4, 40, 41] 42 rfl (by kernel_rfl) ?_
      clear eA eB c1 hone hone2 e1 e2 e0
      refine AG.rs 9 [([], [(5, useR [(0, 0, 0), (1, 41, 0), (2, 2, 0), (3, 3, 0)] 62 ({ val := .tup [.s 4 0 n n, .ex (.int .i64 0)], upd := [(4, .own (ar8 n P))], nks := [4] }))]), ([], [(4, useR [(0, 40, 0), (1, 2, 0), (2, 3, 0)] 102 ({ val := .s 3 0 n n, upd := [(0, .own S2), (3, .own (ar8 n P))], nks := [3], wks := [0] })), (5, { val := .ex (.string (strOf (ar8 n P))) }), (7, { val := .ex (.string (strOf (ar8 n P))) }), (8, { val := .ex (.bool false) }), (12, useR [(0, 40, 0), (1, 2, 0), (2, 3, 0)] 134 ({ val := .s 3 0 n n, upd := [(0, .own S2), (3, .own (ar8 n P))], nks := [3], wks := [0] })), (13, { val := .ex (.string (strOf (ar8 n P))) }), (15, { val := .ex (.string (strOf (ar8 n P))) }), (16, { val := .ex (.bool false) })]), ([], [(1, { val := .ex (.int .i64 (↑(i + 1) : Int)) })])] [1, 3, 5, 6] [0, 1, 2, 3, 4, 40, 41] 42 (todo' := [.code (sub (codeOf Tryd.f3) [1, 1, 1, 1, 1, 0, 1, 0, 0]), .inLoop (sub (codeOf Tryd.f3) [1, 1, 1, 1, 1, 0, 1, 0, 0]), .inBlock 0, .code (sub (codeOf Tryd.f3) [1, 1, 1, 1, 1, 1])]) (st' := ⟨mkT 83 [(1, .p 4 0), (3, .p 40 0), (5, .o 41 0 (List.length (pre ++ row))), (6, .ex (.int .i64 (↑(i + 1) : Int)))], [(0, .view (List.map (Value.int .u8) key)), (1, .rows L), (2, .view [Value.int .u64 7640891576956012808, Value.int .u64 13503953896175478587, Value.int .u64 4354685564936845355, Value.int .u64 11912009170470909681, Value.int .u64 5840696475078001361, Value.int .u64 11170449401992604703, Value.int .u64 2270897969802886507, Value.int .u64 6620516959819538809]), (3, .view rcs), (4, .mix [.ex (.int .i64 size), .sv 0 0 (List.length key), .sv 1 0 (List.length rs)]), (40, .own S2), (41, .row (List.map (Value.int .u8) (pre ++ row)))], 42⟩) (obs := [Ob.call (fun g => List.lookup g [(0, 2), (1, 3)]) 8 [.ex (.int .i64 size), .sv 0 0 (List.length key), .o 41 0 (List.length (pre ++ row))] [(0, .view (List.map (Value.int .u8) key)), (41, .row (List.map (Value.int .u8) (pre ++ row))), (2, .view [Value.int .u64 7640891576956012808, Value.int .u64 13503953896175478587, Value.int .u64 4354685564936845355, Value.int .u64 11912009170470909681, Value.int .u64 5840696475078001361, Value.int .u64 11170449401992604703, Value.int .u64 2270897969802886507, Value.int .u64 6620516959819538809]), (3, .view rcs)] (useR [(0, 0, 0), (1, 41, 0), (2, 2, 0), (3, 3, 0)] 62 { val := .tup [.s 4 0 n n, .ex (.int .i64 0)], upd := [(4, .own (ar8 n P))], nks := [4] }), Ob.call (fun g => List.lookup g [(0, 2), (1, 3)]) 9 [.p 40 0] [(40, .own S2), (2, .view [Value.int .u64 7640891576956012808, Value.int .u64 13503953896175478587, Value.int .u64 4354685564936845355, Value.int .u64 11912009170470909681, Value.int .u64 5840696475078001361, Value.int .u64 11170449401992604703, Value.int .u64 2270897969802886507, Value.int .u64 6620516959819538809]), (3, .view rcs)] (useR [(0, 40, 0), (1, 2, 0), (2, 3, 0)] 102 { val := .s 3 0 n n, upd := [(0, .own S2), (3, .own (ar8 n P))], nks := [3], wks := [0] }), Ob.eq (.ex (.string (strOf (List.take n (List.drop 0 (ar8 n P)))))) (.ex (.string (strOf (ar8 n P)))), Ob.u8 (List.take n (List.drop 0 (ar8 n P))), Ob.le (0 + n) (List.length (ar8 n P)), Ob.eq (.ex (.string (strOf (List.take n (List.drop 0 (ar8 n P)))))) (.ex (.string (strOf (ar8 n P)))), Ob.u8 (List.take n (List.drop 0 (ar8 n P))), Ob.le (0 + n) (List.length (ar8 n P)), Ob.eq (.ex (.bool !ByteArray.toList (strOf (ar8 n P)) == ByteArray.toList (strOf (ar8 n P)))) (.ex (.bool false)), Ob.call (fun g => List.lookup g [(0, 2), (1, 3)]) 9 [.p 40 0] [(40, .own S2), (2, .view [Value.int .u64 7640891576956012808, Value.int .u64 13503953896175478587, Value.int .u64 4354685564936845355, Value.int .u64 11912009170470909681, Value.int .u64 5840696475078001361, Value.int .u64 11170449401992604703, Value.int .u64 2270897969802886507, Value.int .u64 6620516959819538809]), (3, .view rcs)] (useR [(0, 40, 0), (1, 2, 0), (2, 3, 0)] 134 { val := .s 3 0 n n, upd := [(0, .own S2), (3, .own (ar8 n P))], nks := [3], wks := [0] }), Ob.eq (.ex (.string (strOf (List.take n (List.drop 0 (ar8 n P)))))) (.ex (.string (strOf (ar8 n P)))), Ob.u8 (List.take n (List.drop 0 (ar8 n P))), Ob.le (0 + n) (List.length (ar8 n P)), Ob.eq (.ex (.string (strOf (List.take n (List.drop 0 (ar8 n P)))))) (.ex (.string (strOf (ar8 n P)))), Ob.u8 (List.take n (List.drop 0 (ar8 n P))), Ob.le (0 + n) (List.length (ar8 n P)), Ob.eq (.ex (.bool !ByteArray.toList (strOf (ar8 n P)) == ByteArray.toList (strOf (ar8 n P)))) (.ex (.bool false)), Ob.eq (.ex (.int .i64 (IntKind.wrap .i64 ((↑i : Int) + 1)))) (.ex (.int .i64 (↑(i + 1) : Int)))]) (by kernel_rfl) (by kernel_rfl) ⟨(CallOK.at [(0, 0, 0), (1, 41, 0), (2, 2, 0), (3, 3, 0)] 62 (c2 ) (.cons (.ex _) (.cons (.vv rfl) (.cons (.vo rfl) .nil))) (.cons rfl rfl ⟨_, rfl, (by exact cov_all _)⟩ (.cons rfl rfl ⟨_, rfl, (by exact cov_all _)⟩ (.cons rfl rfl ⟨_, rfl, (by exact cov_all _)⟩ (.cons rfl rfl ⟨_, rfl, (by exact cov_all _)⟩ .nil)))) (by kernel_rfl)), (CallOK.at [(0, 40, 0), (1, 2, 0), (2, 3, 0)] 102 (c3 ) (.cons (.p rfl) .nil) (.cons rfl rfl ⟨rfl, rfl⟩ (.cons rfl rfl ⟨_, rfl, (by exact cov_all _)⟩ (.cons rfl rfl ⟨_, rfl, (by exact cov_all _)⟩ .nil))) (by kernel_rfl)), (by simp only [Ob.holds, eT]), (by exact u8_take (u8_drop (u8_arr _ _) _) _), (by (simp only [Ob.holds]; omega)), (by simp only [Ob.holds, eT]), (by exact u8_take (u8_drop (u8_arr _ _) _) _), (by (simp only [Ob.holds]; omega)), (by first | (simp only [Ob.holds, eT, eX, w5]; done) | (simp only [Ob.holds, eT, eX, w5]; rfl)), (CallOK.at [(0, 40, 0), (1, 2, 0), (2, 3, 0)] 134 (c3 ) (.cons (.p rfl) .nil) (.cons rfl rfl ⟨rfl, rfl⟩ (.cons rfl rfl ⟨_, rfl, (by exact cov_all _)⟩ (.cons rfl rfl ⟨_, rfl, (by exact cov_all _)⟩ .nil))) (by kernel_rfl)), (by simp only [Ob.holds, eT]), (by exact u8_take (u8_drop (u8_arr _ _) _) _), (by (simp only [Ob.holds]; omega)), (by simp only [Ob.holds, eT]), (by exact u8_take (u8_drop (u8_arr _ _) _) _), (by (simp only [Ob.holds]; omega)), (by first | (simp only [Ob.holds, eT, eX, w5]; done) | (simp only [Ob.holds, eT, eX, w5]; rfl)), (by simp only [Ob.holds, w5]), trivial⟩ ?_
      exact AG.conv (by kernel_rfl) ihh
    · have g1 : decide ((i : Int) < (rs.length : Int)) = false := decide_eq_false (by omega)
      have c3 := hsum_ok size hs n hn.symm h0 (KD ++ pre) (by rw [List.length_append]; omega) hr
      have g9 : ((n : Int) == size) = true := beq_iff_eq.2 hn.symm
      clear ih
      generalize hS size h0 (KD ++ pre) = S1 at *
      generalize (fun i => putw (kend h0 (KD ++ pre) (i / 8)) (i % 8)) = P at *
      refine AG.rs 7 [([], [(4, { val := .ex (.bool false) })]), ([], [(1, useR [(0, 40, 0), (1, 2, 0), (2, 3, 0)] 66 ({ val := .s 3 0 n n, upd := [(0, .own S1), (3, .own (ar8 n P))], nks := [3], wks := [0] })), (5, { val := .ex (.bool true) }), (7, useR [(0, 2, 0), (1, 3, 0)] 90 ({ val := .ex (.bool true) }))])] [2] [0, 1, 2, 3] 4 (todo' := [.code (sub (codeOf Tryd.f3) [1, 0, 1, 0, 1])]) (st' := ⟨mkT 83 [(2, .ex (.bool true))], [(0, .view (List.map (Value.int .u8) key)), (1, .rows L), (2, .view [Value.int .u64 7640891576956012808, Value.int .u64 13503953896175478587, Value.int .u64 4354685564936845355, Value.int .u64 11912009170470909681, Value.int .u64 5840696475078001361, Value.int .u64 11170449401992604703, Value.int .u64 2270897969802886507, Value.int .u64 6620516959819538809]), (3, .view rcs)], 4⟩) (obs := [Ob.eq (.ex (.bool (decide ((↑i : Int) < (↑(List.length rs) : Int))))) (.ex (.bool false)), Ob.call (fun g => List.lookup g [(0, 2), (1, 3)]) 9 [.p 40 0] [(40, .own S1), (2, .view [Value.int .u64 7640891576956012808, Value.int .u64 13503953896175478587, Value.int .u64 4354685564936845355, Value.int .u64 11912009170470909681, Value.int .u64 5840696475078001361, Value.int .u64 11170449401992604703, Value.int .u64 2270897969802886507, Value.int .u64 6620516959819538809]), (3, .view rcs)] (useR [(0, 40, 0), (1, 2, 0), (2, 3, 0)] 66 { val := .s 3 0 n n, upd := [(0, .own S1), (3, .own (ar8 n P))], nks := [3], wks := [0] }), Ob.eq (.ex (.bool ((↑n : Int) == size))) (.ex (.bool true)), Ob.call (fun g => List.lookup g [(0, 2), (1, 3)]) 10 [] [(2, .view [Value.int .u64 7640891576956012808, Value.int .u64 13503953896175478587, Value.int .u64 4354685564936845355, Value.int .u64 11912009170470909681, Value.int .u64 5840696475078001361, Value.int .u64 11170449401992604703, Value.int .u64 2270897969802886507, Value.int .u64 6620516959819538809]), (3, .view rcs)] (useR [(0, 2, 0), (1, 3, 0)] 90 { val := .ex (.bool true) })]) (by kernel_rfl) (by kernel_rfl) ⟨(by simp only [Ob.holds, g1]), (CallOK.at [(0, 40, 0), (1, 2, 0), (2, 3, 0)] 66 (c3 ) (.cons (.p rfl) .nil) (.cons rfl rfl ⟨rfl, rfl⟩ (.cons rfl rfl ⟨_, rfl, (by exact cov_all _)⟩ (.cons rfl rfl ⟨_, rfl, (by exact cov_all _)⟩ .nil))) (by kernel_rfl)), (by simp only [Ob.holds, g9]), (CallOK.at [(0, 2, 0), (1, 3, 0)] 90 (ca ) .nil (.cons rfl rfl ⟨_, rfl, (by exact cov_all _)⟩ (.cons rfl rfl ⟨_, rfl, (by exact cov_all _)⟩ .nil)) (by kernel_rfl)), trivial⟩ ?_
      refine AG.fin ([.ex (.bool true)]) Go.Proofs.Tryd.f3 fn3 (.inr ⟨_, rfl⟩) (obs := []) (by kernel_rfl) trivial (by kernel_rfl) trivial (by kernel_rfl)
end Go.Proofs.YtenjcieaoedfaaaDoor.Ab
