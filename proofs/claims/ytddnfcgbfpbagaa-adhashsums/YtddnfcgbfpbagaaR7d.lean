/- Own: the reference's numbers of bytes, sums, parts and lowest bytes (no statement is proved here). -/
import Derived.Test.YtddnfcgbfpbagaaR7c
import Derived.KernelRfl
namespace Go.Proofs.Ytddnfcgbfpbagaa.Ab
open Go.Proofs
set_option linter.unusedSimpArgs false
theorem fn72 : Try.prog.funcs[72]? = some Try.f72 := by kernel_rfl
theorem fn65 : Try.prog.funcs[65]? = some Try.f65 := by kernel_rfl
theorem fn75 : Try.prog.funcs[75]? = some Try.f75 := by kernel_rfl
theorem fn74 : Try.prog.funcs[74]? = some Try.f74 := by kernel_rfl
/-- A value, taken modulo the prime, in bytes. -/
def rst (v : Int) : Nat → Int := dig (v % 1361129467683753853853498429727072845819)
theorem div_n (bs : List Int) (hb : All8 bs) (hl : bs.length < 9223372036854775807) : CallOK Try.prog (fun _ => none) 76 [.sv 0 0 bs.length] [(0, .view (bs.map (Value.int .u8)))] { val := .ex (.agg (ar8 17 (rst (leL bs))).toArray) } := divide_ok bs hb hl
theorem rlow_ok (r : Nat → Int) : CallOK Try.prog (fun _ => none) 65 [.ex (.agg (ar8 17 r).toArray)] [] { val := .ex (.agg (ar8 16 r).toArray) } := by
  refine CallOK.from0 hmix Try.f65 0 fn65 (by kernel_rfl) (by kernel_rfl) (fun w ρ h1 h2 => ?_)
  refine AG.rk 192 [2] [4] 5 (todo' := [.code (sub (codeOf Try.f65) [1, 1, 1, 1])]) (st' := ⟨mkT 15 [(2, .p 4 0)], [(4, .own (ar8 16 r))], 5⟩) (by kernel_rfl) (by kernel_rfl) ?_
  refine AG.fin ([.ex (.agg { toList := ar8 16 r })]) Go.Proofs.Try.f65 fn65 (.inr ⟨_, rfl⟩) (obs := [Ob.le 16 16]) (by kernel_rfl) ⟨(Ob.holds_of_dec (by kernel_rfl)), trivial⟩ (by kernel_rfl) trivial (by kernel_rfl)
def ofL (b : Nat → Int) (h : Int) : List Int := (List.range 16).map b ++ [putw h 0, putw h 1, putw h 2, putw h 3]
theorem rof_ok (b : Nat → Int) (hb : ∀ i, i < 16 → R8 (b i)) (h : Int) : CallOK Try.prog (fun _ => none) 72 [.ex (.agg (ar8 16 b).toArray), .ex (.int .u32 h)] [] { val := .ex (.agg (ar8 17 (rst (leL (ofL b h)))).toArray) } := by
  have ha : All8 (ofL b h) := by
    intro x hx
    unfold ofL at hx
    rcases List.mem_append.1 hx with hx | hx
    · obtain ⟨i, hi, rfl⟩ := List.mem_map.1 hx
      exact hb i (by simpa using hi)
    · simp only [List.mem_cons, List.not_mem_nil, or_false] at hx
      rcases hx with rfl | rfl | rfl | rfl <;> exact r8_putw _ _
  refine CallOK.from0 hmix Try.f72 0 fn72 (by kernel_rfl) (by kernel_rfl) (fun w ρ h1 h2 => ?_)
  refine AG.rk 59 [4, 5] [4, 248] 249 (todo' := [.code (sub (codeOf Try.f72) [1, 1, 1, 0]), .code (sub (codeOf Try.f72) [1, 1, 1, 1])]) (st' := ⟨mkT 25 [(4, .p 4 0), (5, .o 248 0 20)], [(4, .own (List.replicate 17 (Value.int .u8 0))), (248, .row [Value.int .u8 (b 0), Value.int .u8 (b 1), Value.int .u8 (b 2), Value.int .u8 (b 3), Value.int .u8 (b 4), Value.int .u8 (b 5), Value.int .u8 (b 6), Value.int .u8 (b 7), Value.int .u8 (b 8), Value.int .u8 (b 9), Value.int .u8 (b 10), Value.int .u8 (b 11), Value.int .u8 (b 12), Value.int .u8 (b 13), Value.int .u8 (b 14), Value.int .u8 (b 15), Value.int .u8 (IntKind.wrap .u8 (Int.fdiv h 1)), Value.int .u8 (IntKind.wrap .u8 (Int.fdiv h 256)), Value.int .u8 (IntKind.wrap .u8 (Int.fdiv h 65536)), Value.int .u8 (IntKind.wrap .u8 (Int.fdiv h 16777216))])], 249⟩) (by kernel_rfl) (by kernel_rfl) ?_
  refine AG.gk [] [(1, useR [(0, 248, 0)] 253 ({ val := .ex (.agg (List.toArray (ar8 17 (rst (leL [b 0, b 1, b 2, b 3, b 4, b 5, b 6, b 7, b 8, b 9, b 10, b 11, b 12, b 13, b 14, b 15, IntKind.wrap .u8 (Int.fdiv h 1), IntKind.wrap .u8 (Int.fdiv h 256), IntKind.wrap .u8 (Int.fdiv h 65536), IntKind.wrap .u8 (Int.fdiv h 16777216)]))))) }))] [4] [4] 5 (st' := ⟨mkT 25 [(4, .p 4 0)], [(4, .own (ar8 17 (rst (leL [b 0, b 1, b 2, b 3, b 4, b 5, b 6, b 7, b 8, b 9, b 10, b 11, b 12, b 13, b 14, b 15, IntKind.wrap .u8 (Int.fdiv h 1), IntKind.wrap .u8 (Int.fdiv h 256), IntKind.wrap .u8 (Int.fdiv h 65536), IntKind.wrap .u8 (Int.fdiv h 16777216)]))))], 5⟩) (obs := [Ob.call (fun g => List.lookup g []) 76 [.o 248 0 20] [(248, .row [Value.int .u8 (b 0), Value.int .u8 (b 1), Value.int .u8 (b 2), Value.int .u8 (b 3), Value.int .u8 (b 4), Value.int .u8 (b 5), Value.int .u8 (b 6), Value.int .u8 (b 7), Value.int .u8 (b 8), Value.int .u8 (b 9), Value.int .u8 (b 10), Value.int .u8 (b 11), Value.int .u8 (b 12), Value.int .u8 (b 13), Value.int .u8 (b 14), Value.int .u8 (b 15), Value.int .u8 (IntKind.wrap .u8 (Int.fdiv h 1)), Value.int .u8 (IntKind.wrap .u8 (Int.fdiv h 256)), Value.int .u8 (IntKind.wrap .u8 (Int.fdiv h 65536)), Value.int .u8 (IntKind.wrap .u8 (Int.fdiv h 16777216))])] (useR [(0, 248, 0)] 253 { val := .ex (.agg (List.toArray (ar8 17 (rst (leL [b 0, b 1, b 2, b 3, b 4, b 5, b 6, b 7, b 8, b 9, b 10, b 11, b 12, b 13, b 14, b 15, IntKind.wrap .u8 (Int.fdiv h 1), IntKind.wrap .u8 (Int.fdiv h 256), IntKind.wrap .u8 (Int.fdiv h 65536), IntKind.wrap .u8 (Int.fdiv h 16777216)]))))) })]) (by kernel_rfl) (by kernel_rfl) ⟨(CallOK.at0 [(0, 248, 0)] 253 (Go.Proofs.Ytddnfcgbfpbagaa.Ab.div_n ([b 0, b 1, b 2, b 3, b 4, b 5, b 6, b 7, b 8, b 9, b 10, b 11, b 12, b 13, b 14, b 15, IntKind.wrap .u8 (Int.fdiv h 1), IntKind.wrap .u8 (Int.fdiv h 256), IntKind.wrap .u8 (Int.fdiv h 65536), IntKind.wrap .u8 (Int.fdiv h 16777216)]) (by first | assumption | (exact ha) | omega | (simp; done) | (simp; omega)) (by first | assumption | (exact ha) | omega | (simp; done) | (simp; omega))) (.cons (.voE rfl rfl (by (first | rfl | (simp; done) | (simp; omega) | omega | assumption))) .nil) (.cons rfl rfl ⟨_, rfl, (by exact cov_all _)⟩ .nil) (by kernel_rfl)), trivial⟩ ?_
  refine AG.fin ([.ex (.agg { toList := ar8 17 (rst (leL [b 0, b 1, b 2, b 3, b 4, b 5, b 6, b 7, b 8, b 9, b 10, b 11, b 12, b 13, b 14, b 15, IntKind.wrap .u8 (Int.fdiv h 1), IntKind.wrap .u8 (Int.fdiv h 256), IntKind.wrap .u8 (Int.fdiv h 65536), IntKind.wrap .u8 (Int.fdiv h 16777216)])) })]) Go.Proofs.Try.f72 fn72 (.inr ⟨_, rfl⟩) (obs := [Ob.le 17 17]) (by kernel_rfl) ⟨(Ob.holds_of_dec (by kernel_rfl)), trivial⟩ (by kernel_rfl) trivial (by kernel_rfl)
theorem allN_range (n : Nat) (f : Nat → Int) (B : Int) (h : ∀ i, i < n → 0 ≤ f i ∧ f i ≤ B) : AllN ((List.range n).map f) B := by
  intro x hx
  obtain ⟨i, hi, rfl⟩ := List.mem_map.1 hx
  exact h i (by simpa using hi)
theorem rbytes_ex (n : Nat) (f : Nat → Int) (hf : ∀ i, i < n → 0 ≤ f i ∧ f i ≤ 1000000000000000000) (hn : n < 1000) : ∃ out : List Int, All8 out ∧ leL out = leN n f ∧ out.length < 2000 ∧ CallOK Try.prog (fun _ => none) 79 [.sv 0 0 n] [(0, .view (ari n f))] { val := .o 1 0 out.length, upd := [(1, .row (out.map (Value.int .u8)))], nks := [1] } := by
  have hN := allN_range n f _ hf
  obtain ⟨hv, h8⟩ := bytesF_le _ _ hN 0 (Int.le_refl 0)
  have hlen := bytesF_len _ hN 0 ⟨by decide, by decide⟩
  rw [Int.zero_add, leL_map] at hv
  rw [List.length_map, List.length_range] at hlen
  have := rbytes_ok _ hN (by simpa using hn)
  rw [List.length_map, List.length_range, List.map_map] at this
  exact ⟨_, h8, hv, by omega, this⟩
def sm (a b : Nat → Int) (i : Nat) : Int := IntKind.i64.wrap (IntKind.i64.wrap (a i) + IntKind.i64.wrap (b i))
theorem rplus_ok (a b : Nat → Int) (ha : ∀ i, i < 17 → R8 (a i)) (hb : ∀ i, i < 17 → R8 (b i)) : CallOK Try.prog (fun _ => none) 75 [.ex (.agg (ar8 17 a).toArray), .ex (.agg (ar8 17 b).toArray)] [] { val := .ex (.agg (ar8 17 (rst (leN 17 a + leN 17 b))).toArray) } := by
  have hs : ∀ i, i < 17 → sm a b i = a i + b i := fun i hi => by
    have A := ha i hi; have B := hb i hi
    unfold R8 at A B; unfold sm; simp only [IntKind.wrap_i64]; omega
  obtain ⟨out, h8, hv, hlen, cB⟩ := rbytes_ex 17 (sm a b) (fun i hi => by
    have A := ha i hi; have B := hb i hi
    unfold R8 at A B; rw [hs i hi]; omega) (by decide)
  have hsum : leN 17 (sm a b) = leN 17 a + leN 17 b := by
    rw [leN_congr hs]
    have : ∀ n, leN n (fun i => a i + b i) = leN n a + leN n b := fun n => by
      induction n with
      | zero => rfl
      | succ n ih => unfold leN; rw [ih, Int.mul_add]; omega
    exact this 17
  rw [← hsum, ← hv]
  refine CallOK.from0 hmix Try.f75 0 fn75 (by kernel_rfl) (by kernel_rfl) (fun w ρ h1 h2 => ?_)
  refine AG.rk 8 [2, 3, 4, 5, 6] [0, 4, 8, 12] 13 (todo' := [.code (sub (codeOf Try.f75) [1, 1, 0, 1, 0]), .inBlock 0, .code (sub (codeOf Try.f75) [1, 1, 1])]) (st' := ⟨mkT 27 [(2, .p 0 0), (3, .p 4 0), (4, .p 8 0), (5, .s 12 0 17 17), (6, .ex (.int .i64 0))], [(0, .own (ar8 17 a)), (4, .own (ar8 17 b)), (8, .own (List.replicate 17 (Value.int .u8 0))), (12, .own (List.replicate 17 (Value.int .i64 0)))], 13⟩) (by kernel_rfl) (by kernel_rfl) ?_
  refine AG.rk 193 [4, 5] [8, 12] 13 (todo' := [.code (sub (codeOf Try.f75) [1, 1, 1])]) (st' := ⟨mkT 27 [(4, .p 8 0), (5, .s 12 0 17 17)], [(8, .own (List.replicate 17 (Value.int .u8 0))), (12, .own [Value.int .i64 (IntKind.wrap .i64 (IntKind.wrap .i64 (a 0) + IntKind.wrap .i64 (b 0))), Value.int .i64 (IntKind.wrap .i64 (IntKind.wrap .i64 (a 1) + IntKind.wrap .i64 (b 1))), Value.int .i64 (IntKind.wrap .i64 (IntKind.wrap .i64 (a 2) + IntKind.wrap .i64 (b 2))), Value.int .i64 (IntKind.wrap .i64 (IntKind.wrap .i64 (a 3) + IntKind.wrap .i64 (b 3))), Value.int .i64 (IntKind.wrap .i64 (IntKind.wrap .i64 (a 4) + IntKind.wrap .i64 (b 4))), Value.int .i64 (IntKind.wrap .i64 (IntKind.wrap .i64 (a 5) + IntKind.wrap .i64 (b 5))), Value.int .i64 (IntKind.wrap .i64 (IntKind.wrap .i64 (a 6) + IntKind.wrap .i64 (b 6))), Value.int .i64 (IntKind.wrap .i64 (IntKind.wrap .i64 (a 7) + IntKind.wrap .i64 (b 7))), Value.int .i64 (IntKind.wrap .i64 (IntKind.wrap .i64 (a 8) + IntKind.wrap .i64 (b 8))), Value.int .i64 (IntKind.wrap .i64 (IntKind.wrap .i64 (a 9) + IntKind.wrap .i64 (b 9))), Value.int .i64 (IntKind.wrap .i64 (IntKind.wrap .i64 (a 10) + IntKind.wrap .i64 (b 10))), Value.int .i64 (IntKind.wrap .i64 (IntKind.wrap .i64 (a 11) + IntKind.wrap .i64 (b 11))), Value.int .i64 (IntKind.wrap .i64 (IntKind.wrap .i64 (a 12) + IntKind.wrap .i64 (b 12))), Value.int .i64 (IntKind.wrap .i64 (IntKind.wrap .i64 (a 13) + IntKind.wrap .i64 (b 13))), Value.int .i64 (IntKind.wrap .i64 (IntKind.wrap .i64 (a 14) + IntKind.wrap .i64 (b 14))), Value.int .i64 (IntKind.wrap .i64 (IntKind.wrap .i64 (a 15) + IntKind.wrap .i64 (b 15))), Value.int .i64 (IntKind.wrap .i64 (IntKind.wrap .i64 (a 16) + IntKind.wrap .i64 (b 16)))])], 13⟩) (by kernel_rfl) (by kernel_rfl) ?_
  refine AG.re 12 (.own (ari 17 (sm a b))) (by kernel_rfl) ?_
  have hb' : out.length < 9223372036854775807 := by omega
  clear hs hv hsum ha hb hlen
  refine AG.rk 1 [4, 5] [8, 12] 13 (todo' := [.code (sub (codeOf Try.f75) [1, 1, 1, 0]), .code (sub (codeOf Try.f75) [1, 1, 1, 1])]) (st' := ⟨mkT 27 [(4, .p 8 0), (5, .s 12 0 17 17)], [(8, .own (List.replicate 17 (Value.int .u8 0))), (12, .own (ari 17 (sm a b)))], 13⟩) (by kernel_rfl) (by kernel_rfl) ?_
  refine AG.gk [] [(1, useR [(0, 12, 0)] 17 ({ val := .o 1 0 (List.length out), upd := [(1, .row (List.map (Value.int .u8) out))], nks := [1] })), (2, useR [(0, 17, 0)] 21 ({ val := .ex (.agg (List.toArray (ar8 17 (rst (leL out))))) }))] [4] [8] 9 (st' := ⟨mkT 27 [(4, .p 8 0)], [(8, .own (ar8 17 (rst (leL out))))], 9⟩) (obs := [Ob.call (fun g => List.lookup g []) 79 [.s 12 0 17 17] [(12, .own (ari 17 (sm a b)))] (useR [(0, 12, 0)] 17 { val := .o 1 0 (List.length out), upd := [(1, .row (List.map (Value.int .u8) out))], nks := [1] }), Ob.call (fun g => List.lookup g []) 76 [.o 17 0 (List.length out)] [(17, .row (List.map (Value.int .u8) out))] (useR [(0, 17, 0)] 21 { val := .ex (.agg (List.toArray (ar8 17 (rst (leL out))))) })]) (by kernel_rfl) (by kernel_rfl) ⟨(CallOK.at0 [(0, 12, 0)] 17 (cB ) (.cons (.vs rfl (by first | omega | (simp; done) | (simp; omega))) .nil) (.cons rfl rfl ⟨_, rfl, (by exact cov_all _)⟩ .nil) (by kernel_rfl)), (CallOK.at0 [(0, 17, 0)] 21 (Go.Proofs.Ytddnfcgbfpbagaa.Ab.div_n (out) (by first | assumption | omega | (simp; done) | (simp; omega)) (by first | assumption | omega | (simp; done) | (simp; omega))) (.cons (.voE rfl rfl (by (first | rfl | (simp; done) | (simp; omega) | omega | assumption))) .nil) (.cons rfl rfl ⟨_, rfl, (by exact cov_all _)⟩ .nil) (by kernel_rfl)), trivial⟩ ?_
  refine AG.fin ([.ex (.agg { toList := ar8 17 (rst (leL out)) })]) Go.Proofs.Try.f75 fn75 (.inr ⟨_, rfl⟩) (obs := [Ob.le 17 17]) (by kernel_rfl) ⟨(Ob.holds_of_dec (by kernel_rfl)), trivial⟩ (by kernel_rfl) trivial (by kernel_rfl)
theorem upd_range {n : Nat} {f : Nat → Int} {t : Nat} {v B B' : Int} (hB : B ≤ B') (hv : 0 ≤ v ∧ v ≤ B') (h : ∀ i, i < n → 0 ≤ f i ∧ f i ≤ B) : ∀ i, i < n → 0 ≤ upd f t v i ∧ upd f t v i ≤ B' := fun i hi => by
  have := h i hi
  unfold upd
  split
  · exact hv
  · omega
theorem times_step (L2 p q ai bk L F : Int) : L2 + p * ai * L + p * q * (F + ai * bk - F) = L2 + p * ai * (L + q * bk) := by grind
theorem rtimes_ok (a b : Nat → Int) (ha : ∀ i, i < 17 → R8 (a i)) (hb : ∀ i, i < 17 → R8 (b i)) : CallOK Try.prog (fun _ => none) 74 [.ex (.agg (ar8 17 a).toArray), .ex (.agg (ar8 17 b).toArray)] [] { val := .ex (.agg (ar8 17 (rst (leN 17 a * leN 17 b))).toArray) } := by
  refine CallOK.from0 hmix Try.f74 0 fn74 (by kernel_rfl) (by kernel_rfl) (fun w ρ h1 h2 => ?_)
  refine AG.rk 8 [2, 3, 4, 5, 6] [0, 4, 8, 12] 13 (todo' := [.code (sub (codeOf Try.f74) [1, 1, 0, 1, 0]), .inBlock 0, .code (sub (codeOf Try.f74) [1, 1, 1])]) (st' := ⟨mkT 41 [(2, .p 0 0), (3, .p 4 0), (4, .p 8 0), (5, .s 12 0 33 33), (6, .ex (.int .i64 0))], [(0, .own (ar8 17 a)), (4, .own (ar8 17 b)), (8, .own (List.replicate 17 (Value.int .u8 0))), (12, .own (List.replicate 33 (Value.int .i64 0)))], 13⟩) (by kernel_rfl) (by kernel_rfl) ?_
  refine AG.rk 1 [2, 3, 4, 5, 6] [0, 4, 8, 12] 13 (todo' := [.code (sub (codeOf Try.f74) [1, 1, 0, 1, 0, 0]), .inLoop (sub (codeOf Try.f74) [1, 1, 0, 1, 0, 0]), .inBlock 0, .code (sub (codeOf Try.f74) [1, 1, 1])]) (st' := ⟨mkT 41 [(2, .p 0 0), (3, .p 4 0), (4, .p 8 0), (5, .s 12 0 33 33), (6, .ex (.int .i64 0))], [(0, .own (ar8 17 a)), (4, .own (ar8 17 b)), (8, .own (List.replicate 17 (Value.int .u8 0))), (12, .own (List.replicate 33 (Value.int .i64 0)))], 13⟩) (by kernel_rfl) (by kernel_rfl) ?_
  refine AG.indE (α := {x : Nat × (Nat → Int) // x.1 ≤ 17 ∧ (∀ j, j < 33 → 0 ≤ x.2 j ∧ x.2 j ≤ 65025 * (17 * x.1 : Nat)) ∧ leN 33 x.2 = leN x.1 a * leN 17 b}) (fun x => 17 - x.1.1)
    (fun x => ⟨mkT 41 [(2, .p 0 0), (3, .p 4 0), (4, .p 8 0), (5, .s 12 0 33 33), (6, .ex (.int .i64 (x.1.1 : Int)))], [(0, .own (ar8 17 a)), (4, .own (ar8 17 b)), (8, .own (List.replicate 17 (.int .u8 0))), (12, .own (ari 33 x.1.2))], 13⟩) ⟨(0, zer), by decide, fun j _ => ⟨by simp [zer], by simp [zer]⟩, by simp only [leN, Int.zero_mul]; decide⟩ (by kernel_rfl) ?_
  rintro ⟨⟨i, f⟩, hi, hf, hv⟩ ih
  simp only at hi hf hv ih ⊢
  refine AG.rk 3 [2, 3, 4, 5, 6, 10] [0, 4, 8, 12] 13 (todo' := [.code (sub (codeOf Try.f74) [1, 1, 0, 1, 0, 0, 0, 1]), .code (sub (codeOf Try.f74) [1, 1, 0, 1, 0, 0, 1]), .inLoop (sub (codeOf Try.f74) [1, 1, 0, 1, 0, 0]), .inBlock 0, .code (sub (codeOf Try.f74) [1, 1, 1])]) (st' := ⟨mkT 41 [(2, .p 0 0), (3, .p 4 0), (4, .p 8 0), (5, .s 12 0 33 33), (6, .ex (.int .i64 (↑i : Int))), (10, .ex (.bool (decide ((↑i : Int) < 17))))], [(0, .own (ar8 17 a)), (4, .own (ar8 17 b)), (8, .own (List.replicate 17 (Value.int .u8 0))), (12, .own (ari 33 f))], 13⟩) (by kernel_rfl) (by kernel_rfl) ?_
  refine AG.cond (b := decide ((↑i : Int) < 17)) (by kernel_rfl) (fun hc => ?_) (fun hc => ?_)
  · have hi' : i < 17 := by simp at hc; omega
    clear hc
    refine AG.rk 6 [2, 3, 4, 5, 6, 7] [0, 4, 8, 12] 13 (todo' := [.code (sub (codeOf Try.f74) [1, 1, 0, 1, 0, 0, 1, 0, 0, 1, 0]), .inBlock 2, .inBlock 1, .code (sub (codeOf Try.f74) [1, 1, 0, 1, 0, 0, 1, 1]), .inLoop (sub (codeOf Try.f74) [1, 1, 0, 1, 0, 0]), .inBlock 0, .code (sub (codeOf Try.f74) [1, 1, 1])]) (st' := ⟨mkT 41 [(2, .p 0 0), (3, .p 4 0), (4, .p 8 0), (5, .s 12 0 33 33), (6, .ex (.int .i64 (↑i : Int))), (7, .ex (.int .i64 0))], [(0, .own (ar8 17 a)), (4, .own (ar8 17 b)), (8, .own (List.replicate 17 (Value.int .u8 0))), (12, .own (ari 33 f))], 13⟩) (by kernel_rfl) (by kernel_rfl) ?_
    refine AG.rk 1 [2, 3, 4, 5, 6, 7] [0, 4, 8, 12] 13 (todo' := [.code (sub (codeOf Try.f74) [1, 1, 0, 1, 0, 0, 1, 0, 0, 1, 0, 0]), .inLoop (sub (codeOf Try.f74) [1, 1, 0, 1, 0, 0, 1, 0, 0, 1, 0, 0]), .inBlock 2, .inBlock 1, .code (sub (codeOf Try.f74) [1, 1, 0, 1, 0, 0, 1, 1]), .inLoop (sub (codeOf Try.f74) [1, 1, 0, 1, 0, 0]), .inBlock 0, .code (sub (codeOf Try.f74) [1, 1, 1])]) (st' := ⟨mkT 41 [(2, .p 0 0), (3, .p 4 0), (4, .p 8 0), (5, .s 12 0 33 33), (6, .ex (.int .i64 (↑i : Int))), (7, .ex (.int .i64 0))], [(0, .own (ar8 17 a)), (4, .own (ar8 17 b)), (8, .own (List.replicate 17 (Value.int .u8 0))), (12, .own (ari 33 f))], 13⟩) (by kernel_rfl) (by kernel_rfl) ?_
    refine AG.indE (α := {y : Nat × (Nat → Int) // y.1 ≤ 17 ∧ (∀ j, j < 33 → 0 ≤ y.2 j ∧ y.2 j ≤ 65025 * (17 * i + y.1 : Nat)) ∧ leN 33 y.2 = leN i a * leN 17 b + 256 ^ i * a i * leN y.1 b}) (fun x => 17 - x.1.1)
      (fun y => ⟨mkT 41 [(2, .p 0 0), (3, .p 4 0), (4, .p 8 0), (5, .s 12 0 33 33), (6, .ex (.int .i64 (i : Int))), (7, .ex (.int .i64 (y.1.1 : Int)))], [(0, .own (ar8 17 a)), (4, .own (ar8 17 b)), (8, .own (List.replicate 17 (.int .u8 0))), (12, .own (ari 33 y.1.2))], 13⟩) ⟨(0, f), by simp, hf, by simp only [leN, Int.mul_zero, Int.add_zero]; exact hv⟩ (by kernel_rfl) ?_
    clear hv hf f
    rintro ⟨⟨k, f⟩, hk, hf, hv⟩ ih2
    simp only at hk hf hv ih2 ⊢
    refine AG.rk 3 [2, 3, 4, 5, 6, 7, 14] [0, 4, 8, 12] 13 (todo' := [.code (sub (codeOf Try.f74) [1, 1, 0, 1, 0, 0, 1, 0, 0, 1, 0, 0, 0, 1]), .code (sub (codeOf Try.f74) [1, 1, 0, 1, 0, 0, 1, 0, 0, 1, 0, 0, 1]), .inLoop (sub (codeOf Try.f74) [1, 1, 0, 1, 0, 0, 1, 0, 0, 1, 0, 0]), .inBlock 2, .inBlock 1, .code (sub (codeOf Try.f74) [1, 1, 0, 1, 0, 0, 1, 1]), .inLoop (sub (codeOf Try.f74) [1, 1, 0, 1, 0, 0]), .inBlock 0, .code (sub (codeOf Try.f74) [1, 1, 1])]) (st' := ⟨mkT 41 [(2, .p 0 0), (3, .p 4 0), (4, .p 8 0), (5, .s 12 0 33 33), (6, .ex (.int .i64 (↑i : Int))), (7, .ex (.int .i64 (↑k : Int))), (14, .ex (.bool (decide ((↑k : Int) < 17))))], [(0, .own (ar8 17 a)), (4, .own (ar8 17 b)), (8, .own (List.replicate 17 (Value.int .u8 0))), (12, .own (ari 33 f))], 13⟩) (by kernel_rfl) (by kernel_rfl) ?_
    refine AG.cond (b := decide ((↑k : Int) < 17)) (by kernel_rfl) (fun hc => ?_) (fun hc => ?_)
    · have hk' : k < 17 := by simp at hc; omega
      clear hc
      have ea : (ar8 17 a).getD (0 + (i : Int).toNat * 1) undef = .int .u8 (a i) := get_ar8 17 a i (by omega) (by omega)
      have eb : (ar8 17 b).getD (0 + (k : Int).toNat * 1) undef = .int .u8 (b k) := get_ar8 17 b k (by omega) (by omega)
      have eik : IntKind.i64.wrap ((i : Int) + (k : Int)) = ((i + k : Nat) : Int) := by rw [wrap64_id _ (by omega) (by omega)]; omega
      have ef : (ari 33 f).getD (0 + ((i + k : Nat) : Int).toNat * 1) undef = .int .i64 (f (i + k)) := get_ari 33 f _ (by omega) (by omega)
      refine AG.rk 3 [2, 3, 4, 5, 6, 7] [0, 4, 8, 12] 13 (todo' := [.code (sub (codeOf Try.f74) [1, 1, 0, 1, 0, 0, 1, 0, 0, 1, 0, 0, 1, 0, 0]), .inBlock 3, .code (sub (codeOf Try.f74) [1, 1, 0, 1, 0, 0, 1, 0, 0, 1, 0, 0, 1, 1]), .inLoop (sub (codeOf Try.f74) [1, 1, 0, 1, 0, 0, 1, 0, 0, 1, 0, 0]), .inBlock 2, .inBlock 1, .code (sub (codeOf Try.f74) [1, 1, 0, 1, 0, 0, 1, 1]), .inLoop (sub (codeOf Try.f74) [1, 1, 0, 1, 0, 0]), .inBlock 0, .code (sub (codeOf Try.f74) [1, 1, 1])]) (st' := ⟨mkT 41 [(2, .p 0 0), (3, .p 4 0), (4, .p 8 0), (5, .s 12 0 33 33), (6, .ex (.int .i64 (↑i : Int))), (7, .ex (.int .i64 (↑k : Int)))], [(0, .own (ar8 17 a)), (4, .own (ar8 17 b)), (8, .own (List.replicate 17 (Value.int .u8 0))), (12, .own (ari 33 f))], 13⟩) (by kernel_rfl) (by kernel_rfl) ?_
      refine AG.gk [8, 11, 15, 20, 21] [(3, { val := .ex (.int .i64 (↑(i + k) : Int)) }), (7, { val := .ex (.int .i64 (↑(i + k) : Int)) }), (9, { val := .ex (.int .i64 (f (i + k))) }), (12, { val := .ex (.int .u8 (a i)) }), (16, { val := .ex (.int .u8 (b k)) })] [2, 3, 4, 5, 6, 7] [0, 4, 8, 12] 13 (st' := ⟨mkT 41 [(2, .p 0 0), (3, .p 4 0), (4, .p 8 0), (5, .s 12 0 33 33), (6, .ex (.int .i64 (↑i : Int))), (7, .ex (.int .i64 (↑k : Int)))], [(0, .own (ar8 17 a)), (4, .own (ar8 17 b)), (8, .own (List.replicate 17 (Value.int .u8 0))), (12, .own (putAt (ari 33 f) (0 + Int.toNat (↑(i + k) : Int) * 1) (Value.cells (Value.int .i64 (IntKind.wrap .i64 (f (i + k) + IntKind.wrap .i64 (IntKind.wrap .i64 (a i) * IntKind.wrap .i64 (b k)))))).toList))], 13⟩) (obs := [Ob.eq (.ex (.int .i64 (IntKind.wrap .i64 ((↑i : Int) + (↑k : Int))))) (.ex (.int .i64 (↑(i + k) : Int))), Ob.eq (.ex (.int .i64 (IntKind.wrap .i64 ((↑i : Int) + (↑k : Int))))) (.ex (.int .i64 (↑(i + k) : Int))), Ob.ix (↑(i + k) : Int) 33, Ob.eq (.ex (List.getD (ari 33 f) (0 + Int.toNat (↑(i + k) : Int) * 1) undef)) (.ex (.int .i64 (f (i + k)))), Ob.le (0 + Int.toNat (↑(i + k) : Int) * 1 + 1) 33, Ob.ix (↑i : Int) 17, Ob.eq (.ex (List.getD (ar8 17 a) (0 + Int.toNat (↑i : Int) * 1) undef)) (.ex (.int .u8 (a i))), Ob.le (0 + Int.toNat (↑i : Int) * 1 + 1) 17, Ob.ix (↑k : Int) 17, Ob.eq (.ex (List.getD (ar8 17 b) (0 + Int.toNat (↑k : Int) * 1) undef)) (.ex (.int .u8 (b k))), Ob.le (0 + Int.toNat (↑k : Int) * 1 + 1) 17, Ob.ix (↑(i + k) : Int) 33, Ob.le (0 + Int.toNat (↑(i + k) : Int) * 1 + 1) 33, Ob.le 1 1, Ob.le 1 1, Ob.one [Value.int .i64 (IntKind.wrap .i64 (f (i + k) + IntKind.wrap .i64 (IntKind.wrap .i64 (a i) * IntKind.wrap .i64 (b k))))]]) (by kernel_rfl) (by kernel_rfl) ⟨(by simp only [Ob.holds, ea, eb, eik, ef]), (by simp only [Ob.holds, ea, eb, eik, ef]), (by (simp only [Ob.holds]; omega)), (by simp only [Ob.holds, ea, eb, eik, ef]), (by (simp only [Ob.holds]; omega)), (by (simp only [Ob.holds]; omega)), (by simp only [Ob.holds, ea, eb, eik, ef]), (by (simp only [Ob.holds]; omega)), (by (simp only [Ob.holds]; omega)), (by simp only [Ob.holds, ea, eb, eik, ef]), (by (simp only [Ob.holds]; omega)), (by (simp only [Ob.holds]; omega)), (by (simp only [Ob.holds]; omega)), (Ob.holds_of_dec (by kernel_rfl)), (Ob.holds_of_dec (by kernel_rfl)), (by rfl), trivial⟩ ?_
      refine AG.rk 3 [2, 3, 4, 5, 6, 7] [0, 4, 8, 12] 13 (todo' := [.code (sub (codeOf Try.f74) [1, 1, 0, 1, 0, 0, 1, 0, 0, 1, 0, 0]), .inLoop (sub (codeOf Try.f74) [1, 1, 0, 1, 0, 0, 1, 0, 0, 1, 0, 0]), .inBlock 2, .inBlock 1, .code (sub (codeOf Try.f74) [1, 1, 0, 1, 0, 0, 1, 1]), .inLoop (sub (codeOf Try.f74) [1, 1, 0, 1, 0, 0]), .inBlock 0, .code (sub (codeOf Try.f74) [1, 1, 1])]) (st' := ⟨mkT 41 [(2, .p 0 0), (3, .p 4 0), (4, .p 8 0), (5, .s 12 0 33 33), (6, .ex (.int .i64 (↑i : Int))), (7, .ex (.int .i64 (IntKind.wrap .i64 ((↑k : Int) + 1))))], [(0, .own (ar8 17 a)), (4, .own (ar8 17 b)), (8, .own (List.replicate 17 (Value.int .u8 0))), (12, .own (putAt (ari 33 f) (0 + Int.toNat (↑(i + k) : Int) * 1) (Value.cells (Value.int .i64 (IntKind.wrap .i64 (f (i + k) + IntKind.wrap .i64 (IntKind.wrap .i64 (a i) * IntKind.wrap .i64 (b k)))))).toList))], 13⟩) (by kernel_rfl) (by kernel_rfl) ?_
      have A := ha i hi'
      have B := hb k hk'
      have F := hf (i + k) (by omega)
      have ab : 0 ≤ a i * b k ∧ a i * b k ≤ 65025 := by
        unfold R8 at A B
        refine ⟨Int.mul_nonneg A.1 B.1, ?_⟩
        have h1 : a i * b k ≤ 255 * b k := Int.mul_le_mul_of_nonneg_right (by omega) B.1
        omega
      have ev : IntKind.i64.wrap (f (i + k) + IntKind.i64.wrap (IntKind.i64.wrap (a i) * IntKind.i64.wrap (b k))) = f (i + k) + a i * b k := by
        unfold R8 at A B
        rw [wrap64_id (a i) (by omega) (by omega), wrap64_id (b k) (by omega) (by omega), wrap64_id (a i * b k) (by omega) (by omega), wrap64_id _ (by omega) (by omega)]
      have e5 : IntKind.i64.wrap ((k : Int) + 1) = ((k + 1 : Nat) : Int) := by rw [wrap64_id _ (by omega) (by omega)]; omega
      have eP : putAt (ari 33 f) (0 + ((i + k : Nat) : Int).toNat * 1) (Value.int IntKind.i64 (f (i + k) + a i * b k)).cells.toList = ari 33 (upd f (i + k) (f (i + k) + a i * b k)) := put_ari 33 f ((i + k : Nat) : Int) (by omega) (by omega) _
      rw [ev, e5, eP]
      refine ih2 ⟨(k + 1, upd f (i + k) (f (i + k) + a i * b k)), hk', upd_range (by omega) ⟨by omega, by omega⟩ hf, ?_⟩ (by simp only; omega)
      simp only
      have eN : leN (k + 1) b = leN k b + 256 ^ k * b k := rfl
      rw [leN_upd 33 f (i + k) (by omega), hv, eN, Int.pow_add]
      exact times_step _ _ _ _ _ _ _
    · obtain rfl : k = 17 := by simp at hc; omega
      clear hc ih2
      have e5 : IntKind.i64.wrap ((i : Int) + 1) = ((i + 1 : Nat) : Int) := by rw [wrap64_id _ (by omega) (by omega)]; omega
      refine AG.rk 4 [2, 3, 4, 5, 6] [0, 4, 8, 12] 13 (todo' := [.code (sub (codeOf Try.f74) [1, 1, 0, 1, 0, 0]), .inLoop (sub (codeOf Try.f74) [1, 1, 0, 1, 0, 0]), .inBlock 0, .code (sub (codeOf Try.f74) [1, 1, 1])]) (st' := ⟨mkT 41 [(2, .p 0 0), (3, .p 4 0), (4, .p 8 0), (5, .s 12 0 33 33), (6, .ex (.int .i64 (IntKind.wrap .i64 ((↑i : Int) + 1))))], [(0, .own (ar8 17 a)), (4, .own (ar8 17 b)), (8, .own (List.replicate 17 (Value.int .u8 0))), (12, .own (ari 33 f))], 13⟩) (by kernel_rfl) (by kernel_rfl) ?_
      rw [e5]
      exact ih ⟨(i + 1, f), hi', fun j hj => by have := hf j hj; simp only; omega, by simp only; rw [hv, show leN (i + 1) a = leN i a + 256 ^ i * a i from rfl, Int.add_mul]⟩ (by simp only; omega)
  · obtain rfl : i = 17 := by simp at hc; omega
    clear hc ih
    obtain ⟨out, h8, hv', hlen, cB⟩ := rbytes_ex 33 f (fun j hj => by have := hf j hj; omega) (by decide)
    have hb' : out.length < 9223372036854775807 := by omega
    have e : leN 17 a * leN 17 b = leL out := by rw [hv', hv]
    rw [e]
    clear e hv hv' hlen hf ha hb
    refine AG.rk 2 [4, 5] [8, 12] 13 (todo' := [.code (sub (codeOf Try.f74) [1, 1, 1, 0]), .code (sub (codeOf Try.f74) [1, 1, 1, 1])]) (st' := ⟨mkT 41 [(4, .p 8 0), (5, .s 12 0 33 33)], [(8, .own (List.replicate 17 (Value.int .u8 0))), (12, .own (ari 33 f))], 13⟩) (by kernel_rfl) (by kernel_rfl) ?_
    refine AG.gk [] [(1, useR [(0, 12, 0)] 17 ({ val := .o 1 0 (List.length out), upd := [(1, .row (List.map (Value.int .u8) out))], nks := [1] })), (2, useR [(0, 17, 0)] 21 ({ val := .ex (.agg (List.toArray (ar8 17 (rst (leL out))))) }))] [4] [8] 9 (st' := ⟨mkT 41 [(4, .p 8 0)], [(8, .own (ar8 17 (rst (leL out))))], 9⟩) (obs := [Ob.call (fun g => List.lookup g []) 79 [.s 12 0 33 33] [(12, .own (ari 33 f))] (useR [(0, 12, 0)] 17 { val := .o 1 0 (List.length out), upd := [(1, .row (List.map (Value.int .u8) out))], nks := [1] }), Ob.call (fun g => List.lookup g []) 76 [.o 17 0 (List.length out)] [(17, .row (List.map (Value.int .u8) out))] (useR [(0, 17, 0)] 21 { val := .ex (.agg (List.toArray (ar8 17 (rst (leL out))))) })]) (by kernel_rfl) (by kernel_rfl) ⟨(CallOK.at0 [(0, 12, 0)] 17 (cB ) (.cons (.vs rfl (by first | omega | (simp; done) | (simp; omega))) .nil) (.cons rfl rfl ⟨_, rfl, (by exact cov_all _)⟩ .nil) (by kernel_rfl)), (CallOK.at0 [(0, 17, 0)] 21 (Go.Proofs.Ytddnfcgbfpbagaa.Ab.div_n (out) (by first | assumption | omega | (simp; done) | (simp; omega)) (by first | assumption | omega | (simp; done) | (simp; omega))) (.cons (.voE rfl rfl (by (first | rfl | (simp; done) | (simp; omega) | omega | assumption))) .nil) (.cons rfl rfl ⟨_, rfl, (by exact cov_all _)⟩ .nil) (by kernel_rfl)), trivial⟩ ?_
    refine AG.fin ([.ex (.agg { toList := ar8 17 (rst (leL out)) })]) Go.Proofs.Try.f74 fn74 (.inr ⟨_, rfl⟩) (obs := [Ob.le 17 17]) (by kernel_rfl) ⟨(Ob.holds_of_dec (by kernel_rfl)), trivial⟩ (by kernel_rfl) trivial (by kernel_rfl)
end Go.Proofs.Ytddnfcgbfpbagaa.Ab
