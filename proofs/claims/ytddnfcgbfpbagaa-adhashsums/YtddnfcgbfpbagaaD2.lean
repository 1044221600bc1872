/- Own: bodies and sums of layer 12 (no statement is proved here). -/
import Derived.Test.YtddnfcgbfpbagaaD1
import Derived.KernelRfl
namespace Go.Proofs.Ytddnfcgbfpbagaa.Ab
open Go.Proofs
set_option linter.unusedSimpArgs false
set_option linter.unusedVariables false
/-- The hash of a piece. -/
def pcH (w : Nat → Int) (bs : List Int) : Nat → Int := tld (fun p => pas ((List.range 268).map w) bs p (bs.length / 16))
theorem map32 (n : Nat) (f : Nat → Int) : ((List.range n).map f).map (Value.int .u32) = ar32 n f := by rw [List.map_map]; rfl
theorem r8_tld (p : Nat → Int) (j : Nat) : R8 (tld p j) := r8_putw _ _
theorem len_adC (a b w : Nat → Int) : (adC a b w).length = 300 := by unfold adC; rw [List.length_append, List.length_append, length_ar8, length_ar8, length_ar32]
theorem words_adC (a b w : Nat → Int) : List.take 268 (List.drop 32 (adC a b w)) = ar32 268 w := by
  unfold adC
  rw [List.drop_left' (by rw [List.length_append, length_ar8, length_ar8]), List.take_of_length_le (by rw [length_ar32]; exact Nat.le_refl _)]
theorem key2_adC (a b w : Nat → Int) : List.take 16 (List.drop 16 (adC a b w)) = ar8 16 b := by
  unfold adC
  rw [List.append_assoc, List.drop_left' (length_ar8 _ _), List.take_left' (length_ar8 _ _)]
theorem take_b (a b w : Nat → Int) (K : Int) (l : List Int) (h8 : All8 l) (hl : l.length ≤ 900000) (bs : List Int) (hb8 : All8 bs) (h0 : bs.length ≤ 1024) (h16 : bs.length % 16 = 0) :
    CallOK Try.prog (fun _ => none) 43 [.sv 4 0 bs.length, .p 0 0, .p 1 0] [(0, .mixv [.p 2 0]), (1, .mixv [.p 3 0]), (2, .view (adC a b w)), (3, .own (stC K l)), (4, .view (bs.map (Value.int .u8)))] { val := .tup [], upd := [(3, .own (stC K (l ++ (List.range 32).map (pcH w bs))))], wks := [3] } := by
  have c1 := nhash_ok ((List.range 268).map w) bs h0 h16 (by simp; omega)
  rw [map32, List.length_map, List.length_range] at c1
  have hp8 : All8 ((List.range 32).map (pcH w bs)) := all8_rngU _ _ fun j => r8_tld _ j
  have c2 := write_ok K l ((List.range 32).map (pcH w bs)) (all8_app h8 hp8) (by simp; omega)
  rw [mapr, List.length_map, List.length_range] at c2
  rw [show tld (fun p => pas ((List.range 268).map w) bs p (bs.length / 16)) = pcH w bs from rfl] at c1
  generalize stC K (l ++ (List.range 32).map (pcH w bs)) = S1 at *
  generalize stC K l = S0 at *
  generalize pcH w bs = H at *
  obtain ⟨C, hC⟩ : ∃ C, C = adC a b w := ⟨_, rfl⟩
  have hCl : C.length = 300 := by rw [hC]; exact len_adC a b w
  have hCw : List.take 268 (List.drop 32 C) = ar32 268 w := by rw [hC]; exact words_adC a b w
  rw [← hCw] at c1
  rw [← hC]
  clear hC
  refine CallOK.from0 hmix Try.f43 5 fn43 (by kernel_rfl) (by kernel_rfl) (fun wl ρ h1 h2 => ?_)
  refine AG.rk 1 [0, 1, 2] [0, 1, 2, 3, 4] 5 (todo' := [.code (sub (codeOf Try.f43) [0]), .code (sub (codeOf Try.f43) [1])]) (st' := ⟨mkT 18 [(0, .sv 4 0 (List.length bs)), (1, .p 0 0), (2, .p 1 0)], [(0, .mixv [.p 2 0]), (1, .mixv [.p 3 0]), (2, .view C), (3, .own S0), (4, .view (List.map (Value.int .u8) bs))], 5⟩) (by kernel_rfl) (by kernel_rfl) ?_
  refine AG.gk [] [(5, useR [(0, 2, 32), (1, 4, 0)] 25 ({ val := .tup [.ex (.agg (List.toArray (ar8 32 H))), .ex (.int .i64 0)] }))] [2, 4] [0, 1, 2, 3, 4, 41] 42 (st' := ⟨mkT 18 [(2, .p 1 0), (4, .p 41 0)], [(0, .mixv [.p 2 0]), (1, .mixv [.p 3 0]), (2, .view C), (3, .own S0), (4, .view (List.map (Value.int .u8) bs)), (41, .own (ar8 32 H))], 42⟩) (obs := [Ob.call (fun g => List.lookup g []) 30 [.s 2 32 268 268, .sv 4 0 (List.length bs)] [(2, .view C), (4, .view (List.map (Value.int .u8) bs))] (useR [(0, 2, 32), (1, 4, 0)] 25 { val := .tup [.ex (.agg (List.toArray (ar8 32 H))), .ex (.int .i64 0)] })]) (by kernel_rfl) (by kernel_rfl) ⟨(CallOK.at0 [(0, 2, 32), (1, 4, 0)] 25 (c1 ) (.cons (.vs rfl (by first | omega | (simp; done) | (simp; omega))) (.cons (.vv rfl) .nil)) (.cons rfl rfl ⟨_, rfl, (by (simp; done))⟩ (.cons rfl rfl ⟨_, rfl, (by exact cov_all _)⟩ .nil)) (by kernel_rfl)), trivial⟩ ?_
  refine AG.gk [] [(2, useR [(0, 3, 0), (1, 41, 0)] 50 ({ val := .tup [], upd := [(0, .own S1)], wks := [0] }))] [] [0, 1, 2, 3, 4] 5 (st' := ⟨mkT 18 [], [(0, .mixv [.p 2 0]), (1, .mixv [.p 3 0]), (2, .view C), (3, .own S1), (4, .view (List.map (Value.int .u8) bs))], 5⟩) (obs := [Ob.call (fun g => List.lookup g []) 12 [.p 3 0, .s 41 0 32 32] [(3, .own S0), (41, .own (ar8 32 H))] (useR [(0, 3, 0), (1, 41, 0)] 50 { val := .tup [], upd := [(0, .own S1)], wks := [0] })]) (by kernel_rfl) (by kernel_rfl) ⟨(CallOK.at0 [(0, 3, 0), (1, 41, 0)] 50 (c2 ) (.cons (.p rfl) (.cons (.vs rfl (by first | omega | (simp; done) | (simp; omega))) .nil)) (.cons rfl rfl ⟨rfl, rfl⟩ (.cons rfl rfl ⟨_, rfl, (by exact cov_all _)⟩ .nil)) (by kernel_rfl)), trivial⟩ ?_
  refine AG.fin ([]) Go.Proofs.Try.f43 fn43 (.inl rfl) (obs := []) (by kernel_rfl) trivial (by kernel_rfl) ⟨(by kernel_rfl), trivial⟩ (by kernel_rfl)
/-- The hashes of the first pieces. -/
def pcsL (w : Nat → Int) (bs : List Int) : Nat → List Int
  | 0 => []
  | u + 1 => pcsL w bs u ++ (List.range 32).map (pcH w ((bs.drop (1024 * u)).take 1024))
theorem len_pcsL (w : Nat → Int) (bs : List Int) : ∀ u, (pcsL w bs u).length = 32 * u
  | 0 => rfl
  | u + 1 => by
    show (pcsL w bs u ++ _).length = _
    rw [List.length_append, len_pcsL w bs u, List.length_map, List.length_range]; omega
theorem all8_pcsL (w : Nat → Int) (bs : List Int) : ∀ u, All8 (pcsL w bs u)
  | 0 => fun x hx => by cases hx
  | u + 1 => all8_app (all8_pcsL w bs u) (all8_rngU _ _ fun j => r8_tld _ j)
theorem all8_part {bs : List Int} (h : All8 bs) (d n : Nat) : All8 ((bs.drop d).take n) := fun x hx => h x (List.mem_of_mem_drop (List.mem_of_mem_take hx))
theorem each_b (a b w : Nat → Int) (K : Int) (bs : List Int) (h8 : All8 bs) (hl : bs.length ≤ 100000) (h16 : bs.length % 16 = 0) :
    CallOK Try.prog (fun _ => none) 42 [.sv 4 0 bs.length, .f 43 [0, 1]] [(0, .mixv [.p 2 0]), (1, .mixv [.p 3 0]), (2, .view (adC a b w)), (3, .own (stC K [])), (4, .view (bs.map (Value.int .u8)))] { val := .tup [], upd := [(3, .own (stC K (pcsL w bs ((bs.length + 1023) / 1024))))], wks := [3] } := by
  have cT := fun u (hu : 1024 * u < bs.length) => take_b a b w K (pcsL w bs u) (all8_pcsL w bs u) (by rw [len_pcsL]; omega) ((bs.drop (1024 * u)).take 1024) (all8_part h8 _ _) (by simp; omega) (by simp; omega)
  obtain ⟨S, hS⟩ : ∃ S : Nat → List Value, ∀ u, stC K (pcsL w bs u) = S u := ⟨_, fun _ => rfl⟩
  have hS0 : stC K [] = S 0 := hS 0
  have hS1 : ∀ u, stC K (pcsL w bs u ++ (List.range 32).map (pcH w ((bs.drop (1024 * u)).take 1024))) = S (u + 1) := fun u => hS (u + 1)
  simp only [hS, hS1] at cT
  rw [hS0, hS]
  generalize adC a b w = C at *
  clear hS hS0 hS1
  refine CallOK.from0 hmix Try.f42 5 fn42 (by kernel_rfl) (by kernel_rfl) (fun wl ρ h1 h2 => ?_)
  refine AG.rk 3 [0, 1] [0, 1, 2, 3, 4] 5 (todo' := [.code (sub (codeOf Try.f42) [0, 1]), .inScope (sub (codeOf Try.f42) [0])]) (st' := ⟨mkT 19 [(0, .sv 4 0 (List.length bs)), (1, .f 43 [0, 1])], [(0, .mixv [.p 2 0]), (1, .mixv [.p 3 0]), (2, .view C), (3, .own (S 0)), (4, .view (List.map (Value.int .u8) bs))], 5⟩) (by kernel_rfl) (by kernel_rfl) ?_
  refine AG.indE (α := {u : Nat // 1024 * u ≤ bs.length + 1023}) (fun u => bs.length + 1024 - 1024 * u.1)
    (fun u => ⟨mkT 19 [(0, .sv 4 (min (1024 * u.1) bs.length) (bs.length - 1024 * u.1)), (1, .f 43 [0, 1])], [(0, .mixv [.p 2 0]), (1, .mixv [.p 3 0]), (2, .view C), (3, .own (S u.1)), (4, .view (List.map (Value.int IntKind.u8) bs))], 5⟩) ⟨0, by omega⟩ (by simp only [Nat.mul_zero, Nat.zero_min, Nat.sub_zero]) ?_
  rintro ⟨u, hu⟩ ih
  simp only at hu ih ⊢
  by_cases hlt : 1024 * u < bs.length
  · have g : decide (((bs.length - 1024 * u : Nat) : Int) > 0) = true := by simp; omega
    have eM : min (1024 * u) bs.length = 1024 * u := by omega
    rw [eM]
    obtain ⟨n, hn⟩ : ∃ n, n = min (bs.length - 1024 * u) 1024 := ⟨_, rfl⟩
    have em : (if (1024 : Int) < ((bs.length - 1024 * u : Nat) : Int) then 1024 else ((bs.length - 1024 * u : Nat) : Int)) = (n : Int) := by split <;> omega
    have cTu := cT u hlt
    have elen : ((bs.drop (1024 * u)).take 1024).length = n := by simp; omega
    have epr : (bs.drop (1024 * u)).take 1024 = (bs.drop (1024 * u)).take n := by
      by_cases h : n = 1024
      · rw [h]
      · rw [List.take_of_length_le (by simp; omega), List.take_of_length_le (by simp; omega)]
    rw [elen, epr, List.map_take, List.map_drop] at cTu
    refine AG.rk 1 [0, 1] [0, 1, 2, 3, 4] 5 (todo' := [.code (sub (codeOf Try.f42) [0, 1, 0]), .code (sub (codeOf Try.f42) [0, 1, 1]), .inScope (sub (codeOf Try.f42) [0])]) (st' := ⟨mkT 19 [(0, .sv 4 (1024 * u) (List.length bs - 1024 * u)), (1, .f 43 [0, 1])], [(0, .mixv [.p 2 0]), (1, .mixv [.p 3 0]), (2, .view C), (3, .own (S u)), (4, .view (List.map (Value.int .u8) bs))], 5⟩) (by kernel_rfl) (by kernel_rfl) ?_
    refine AG.gk [] [(2, { val := .ex (.bool true) })] [0, 1, 7] [0, 1, 2, 3, 4] 5 (st' := ⟨mkT 19 [(0, .sv 4 (1024 * u) (List.length bs - 1024 * u)), (1, .f 43 [0, 1]), (7, .ex (.bool true))], [(0, .mixv [.p 2 0]), (1, .mixv [.p 3 0]), (2, .view C), (3, .own (S u)), (4, .view (List.map (Value.int .u8) bs))], 5⟩) (obs := [Ob.eq (.ex (.bool (decide ((↑(List.length bs - 1024 * u) : Int) > 0)))) (.ex (.bool true))]) (by kernel_rfl) (by kernel_rfl) ⟨(by simp only [Ob.holds, g, em, Int.toNat_natCast]), trivial⟩ ?_
    refine AG.rk 2 [0, 1] [0, 1, 2, 3, 4] 5 (todo' := [.code (sub (codeOf Try.f42) [0, 1, 1, 0, 0]), .code (sub (codeOf Try.f42) [0, 1, 1, 0, 1]), .inScope (sub (codeOf Try.f42) [0])]) (st' := ⟨mkT 19 [(0, .sv 4 (1024 * u) (List.length bs - 1024 * u)), (1, .f 43 [0, 1])], [(0, .mixv [.p 2 0]), (1, .mixv [.p 3 0]), (2, .view C), (3, .own (S u)), (4, .view (List.map (Value.int .u8) bs))], 5⟩) (by kernel_rfl) (by kernel_rfl) ?_
    refine AG.gk [] [(2, { val := .ex (.int .i64 (↑n : Int)) })] [0, 1, 4] [0, 1, 2, 3, 4] 5 (st' := ⟨mkT 19 [(0, .sv 4 (1024 * u) (List.length bs - 1024 * u)), (1, .f 43 [0, 1]), (4, .ex (.int .i64 (↑n : Int)))], [(0, .mixv [.p 2 0]), (1, .mixv [.p 3 0]), (2, .view C), (3, .own (S u)), (4, .view (List.map (Value.int .u8) bs))], 5⟩) (obs := [Ob.eq (.ex (.int .i64 (if 1024 < (↑(List.length bs - 1024 * u) : Int) then 1024 else (↑(List.length bs - 1024 * u) : Int)))) (.ex (.int .i64 (↑n : Int)))]) (by kernel_rfl) (by kernel_rfl) ⟨(by simp only [Ob.holds, g, em, Int.toNat_natCast]), trivial⟩ ?_
    refine AG.rk 1 [0, 1, 4] [0, 1, 2, 3, 4] 5 (todo' := [.code (sub (codeOf Try.f42) [0, 1, 1, 0, 1, 0]), .code (sub (codeOf Try.f42) [0, 1, 1, 0, 1, 1]), .inScope (sub (codeOf Try.f42) [0])]) (st' := ⟨mkT 19 [(0, .sv 4 (1024 * u) (List.length bs - 1024 * u)), (1, .f 43 [0, 1]), (4, .ex (.int .i64 (↑n : Int)))], [(0, .mixv [.p 2 0]), (1, .mixv [.p 3 0]), (2, .view C), (3, .own (S u)), (4, .view (List.map (Value.int .u8) bs))], 5⟩) (by kernel_rfl) (by kernel_rfl) ?_
    refine AG.gk [] [(3, { val := .sv 4 (1024 * u + 0) (n - 0) }), (4, useR [(4, 4, 1024 * u + 0), (0, 0, 0), (1, 1, 0), (2, 2, 0), (3, 3, 0)] 21 ({ val := .tup [], upd := [(3, .own (S (u + 1)))], wks := [3] }))] [0, 1, 4] [0, 1, 2, 3, 4] 5 (st' := ⟨mkT 19 [(0, .sv 4 (1024 * u) (List.length bs - 1024 * u)), (1, .f 43 [0, 1]), (4, .ex (.int .i64 (↑n : Int)))], [(0, .mixv [.p 2 0]), (1, .mixv [.p 3 0]), (2, .view C), (3, .own (S (u + 1))), (4, .view (List.map (Value.int .u8) bs))], 5⟩) (obs := [Ob.eq (.sv 4 (1024 * u + 0) (Int.toNat (↑n : Int) - 0)) (.sv 4 (1024 * u + 0) (n - 0)), Ob.ix (↑n : Int) (List.length bs - 1024 * u + 1), Ob.ix 0 (Int.toNat (↑n : Int) + 1), Ob.call (fun g => List.lookup g []) 43 [.sv 4 (1024 * u + 0) (n - 0), .p 0 0, .p 1 0] [(4, .view (List.map (Value.int .u8) bs)), (0, .mixv [.p 2 0]), (1, .mixv [.p 3 0]), (2, .view C), (3, .own (S u))] (useR [(4, 4, 1024 * u + 0), (0, 0, 0), (1, 1, 0), (2, 2, 0), (3, 3, 0)] 21 { val := .tup [], upd := [(3, .own (S (u + 1)))], wks := [3] })]) (by kernel_rfl) (by kernel_rfl) ⟨(by simp only [Ob.holds, g, em, Int.toNat_natCast]), (by (simp only [Ob.holds]; omega)), (by (simp only [Ob.holds]; omega)), (CallOK.at0 [(4, 4, 1024 * u + 0), (0, 0, 0), (1, 1, 0), (2, 2, 0), (3, 3, 0)] 21 (cTu ) (.cons (.vv rfl) (.cons (.p rfl) (.cons (.p rfl) .nil))) (.cons rfl rfl ⟨_, .inr rfl, rfl, (.cons (.p rfl) .nil), (by simp)⟩ (.cons rfl rfl ⟨_, .inr rfl, rfl, (.cons (.p rfl) .nil), (by simp)⟩ (.cons rfl rfl ⟨_, rfl, (by exact cov_all _)⟩ (.cons rfl rfl ⟨rfl, rfl⟩ (.cons rfl rfl ⟨_, rfl, (by (simp; done))⟩ .nil))))) (by kernel_rfl)), trivial⟩ ?_
    refine AG.rk 1 [0, 1, 4] [0, 1, 2, 3, 4] 5 (todo' := [.code (sub (codeOf Try.f42) [0, 1, 1, 0, 1, 1, 0]), .code (sub (codeOf Try.f42) [0, 1, 1, 0, 1, 1, 1]), .inScope (sub (codeOf Try.f42) [0])]) (st' := ⟨mkT 19 [(0, .sv 4 (1024 * u) (List.length bs - 1024 * u)), (1, .f 43 [0, 1]), (4, .ex (.int .i64 (↑n : Int)))], [(0, .mixv [.p 2 0]), (1, .mixv [.p 3 0]), (2, .view C), (3, .own (S (u + 1))), (4, .view (List.map (Value.int .u8) bs))], 5⟩) (by kernel_rfl) (by kernel_rfl) ?_
    refine AG.gk [] [(2, { val := .sv 4 (1024 * u + n * 1) (List.length bs - 1024 * u - n) })] [0, 1] [0, 1, 2, 3, 4] 5 (st' := ⟨mkT 19 [(0, .sv 4 (1024 * u + n * 1) (List.length bs - 1024 * u - n)), (1, .f 43 [0, 1])], [(0, .mixv [.p 2 0]), (1, .mixv [.p 3 0]), (2, .view C), (3, .own (S (u + 1))), (4, .view (List.map (Value.int .u8) bs))], 5⟩) (obs := [Ob.eq (.sv 4 (1024 * u + Int.toNat (↑n : Int) * 1) (List.length bs - 1024 * u - Int.toNat (↑n : Int))) (.sv 4 (1024 * u + n * 1) (List.length bs - 1024 * u - n)), Ob.ix (↑(List.length bs - 1024 * u) : Int) (List.length bs - 1024 * u + 1), Ob.ix (↑n : Int) (List.length bs - 1024 * u + 1)]) (by kernel_rfl) (by kernel_rfl) ⟨(by simp only [Ob.holds, g, em, Int.toNat_natCast]), (by (simp only [Ob.holds]; omega)), (by (simp only [Ob.holds]; omega)), trivial⟩ ?_
    refine AG.rk 3 [0, 1] [0, 1, 2, 3, 4] 5 (todo' := [.code (sub (codeOf Try.f42) [0, 1]), .inScope (sub (codeOf Try.f42) [0])]) (st' := ⟨mkT 19 [(0, .sv 4 (1024 * u + n * 1) (List.length bs - 1024 * u - n)), (1, .f 43 [0, 1])], [(0, .mixv [.p 2 0]), (1, .mixv [.p 3 0]), (2, .view C), (3, .own (S (u + 1))), (4, .view (List.map (Value.int .u8) bs))], 5⟩) (by kernel_rfl) (by kernel_rfl) ?_
    have a1 : 1024 * u + n * 1 = min (1024 * (u + 1)) bs.length := by omega
    have a2 : bs.length - 1024 * u - n = bs.length - 1024 * (u + 1) := by omega
    have := ih ⟨u + 1, by omega⟩ (by simp only; omega)
    simp only at this
    rewrite [a1, a2]
    exact this
  · have g : decide (((bs.length - 1024 * u : Nat) : Int) > 0) = false := by simp; omega
    have eu : (bs.length + 1023) / 1024 = u := by omega
    clear ih
    rw [eu]
    refine AG.rk 1 [0, 1] [0, 1, 2, 3, 4] 5 (todo' := [.code (sub (codeOf Try.f42) [0, 1, 0]), .code (sub (codeOf Try.f42) [0, 1, 1]), .inScope (sub (codeOf Try.f42) [0])]) (st' := ⟨mkT 19 [(0, .sv 4 (min (1024 * u) (List.length bs)) (List.length bs - 1024 * u)), (1, .f 43 [0, 1])], [(0, .mixv [.p 2 0]), (1, .mixv [.p 3 0]), (2, .view C), (3, .own (S u)), (4, .view (List.map (Value.int .u8) bs))], 5⟩) (by kernel_rfl) (by kernel_rfl) ?_
    refine AG.gk [] [(2, { val := .ex (.bool false) })] [0, 1, 7] [0, 1, 2, 3, 4] 5 (st' := ⟨mkT 19 [(0, .sv 4 (min (1024 * u) (List.length bs)) (List.length bs - 1024 * u)), (1, .f 43 [0, 1]), (7, .ex (.bool false))], [(0, .mixv [.p 2 0]), (1, .mixv [.p 3 0]), (2, .view C), (3, .own (S u)), (4, .view (List.map (Value.int .u8) bs))], 5⟩) (obs := [Ob.eq (.ex (.bool (decide ((↑(List.length bs - 1024 * u) : Int) > 0)))) (.ex (.bool false))]) (by kernel_rfl) (by kernel_rfl) ⟨(by simp only [Ob.holds, g]), trivial⟩ ?_
    refine AG.rk 3 [] [0, 1, 2, 3, 4] 5 (todo' := []) (st' := ⟨mkT 19 [], [(0, .mixv [.p 2 0]), (1, .mixv [.p 3 0]), (2, .view C), (3, .own (S u)), (4, .view (List.map (Value.int .u8) bs))], 5⟩) (by kernel_rfl) (by kernel_rfl) ?_
    refine AG.fin ([]) Go.Proofs.Try.f42 fn42 (.inl rfl) (obs := []) (by kernel_rfl) trivial (by kernel_rfl) ⟨(by kernel_rfl), trivial⟩ (by kernel_rfl)
theorem stC_own (K : Int) (l : List Int) : ∃ S, S = stC K l := ⟨_, rfl⟩
theorem body_ok (a b w : Nat → Int) (hb : A16 b) (bs : List Int) (h8 : All8 bs) (hl : bs.length ≤ 90000) : CallOK Try.prog (fun _ => none) 22 [.p 0 0, .sv 1 0 bs.length] [(0, .view (adC a b w)), (1, .view (bs.map (Value.int .u8)))] { val := .ex (w2 (lowv (tv (kn b) (pcsL w (padL bs) ((bs.length + 1023) / 1024))))) } := by
  have c1 := new_st b hb
  have c2 := padded_ok bs (by omega)
  have hpl : (padL bs).length = up16 bs.length := len_padL bs
  have hp8 : All8 (padL bs) := all8_rngU _ _ fun j => h8.at (j : Int)
  have hu := up16_le bs.length
  have c3 := each_b a b w (kn b) (padL bs) hp8 (by omega) (by omega)
  rw [hpl, show (up16 bs.length + 1023) / 1024 = (bs.length + 1023) / 1024 by unfold up16; omega, show (padL bs).map (Value.int .u8) = ar8 (up16 bs.length) (fun j => bAt bs (j : Int)) from mapr _ _] at c3
  have c4 := number_ok' (kn b) (pcsL w (padL bs) ((bs.length + 1023) / 1024)) (all8_pcsL _ _ _)
  unfold w2 at c4 ⊢
  generalize w2lo (lowv (tv (kn b) (pcsL w (padL bs) ((bs.length + 1023) / 1024)))) = X0 at *
  generalize w2hi (lowv (tv (kn b) (pcsL w (padL bs) ((bs.length + 1023) / 1024)))) = X1 at *
  generalize stC (kn b) (pcsL w (padL bs) ((bs.length + 1023) / 1024)) = S1 at *
  generalize stC (kn b) [] = S0 at *
  have hk := key2_adC a b w
  have hCl := len_adC a b w
  generalize adC a b w = C at *
  generalize up16 bs.length = L at *
  generalize (fun j : Nat => bAt bs (j : Int)) = F at *
  refine CallOK.from0 hmix Try.f22 2 fn22 (by kernel_rfl) (by kernel_rfl) (fun wl ρ h1 h2 => ?_)
  refine AG.rk 8 [1, 2, 4] [0, 1, 2, 6] 7 (todo' := [.code (sub (codeOf Try.f22) [1, 1, 0]), .code (sub (codeOf Try.f22) [1, 1, 1])]) (st' := ⟨mkT 20 [(1, .sv 1 0 (List.length bs)), (2, .p 2 0), (4, .p 6 0)], [(0, .view C), (1, .view (List.map (Value.int .u8) bs)), (2, .mix [.p 0 0]), (6, .own [Value.int .u64 0, Value.int .u64 0])], 7⟩) (by kernel_rfl) (by kernel_rfl) ?_
  refine AG.gk [] [(3, { val := .ex (.agg { toList := ar8 16 b }) }), (4, useR [] 23 ({ val := .p 0 0, upd := [(0, .own S0)], nks := [0] }))] [1, 2, 4, 5] [0, 1, 2, 6, 23, 27] 28 (st' := ⟨mkT 20 [(1, .sv 1 0 (List.length bs)), (2, .p 2 0), (4, .p 6 0), (5, .p 27 0)], [(0, .view C), (1, .view (List.map (Value.int .u8) bs)), (2, .mix [.p 0 0]), (6, .own [Value.int .u64 0, Value.int .u64 0]), (23, .own S0), (27, .mix [.p 23 0])], 28⟩) (obs := [Ob.eq (.ex (.agg { toList := List.take 16 (List.drop 16 C) })) (.ex (.agg { toList := ar8 16 b })), Ob.le 32 (List.length C), Ob.call (fun g => List.lookup g []) 11 [.ex (.agg { toList := ar8 16 b })] [] (useR [] 23 { val := .p 0 0, upd := [(0, .own S0)], nks := [0] })]) (by kernel_rfl) (by kernel_rfl) ⟨(by simp only [Ob.holds, hk]), (by (simp only [Ob.holds]; omega)), (CallOK.at0 [] 23 (c1 ) (.cons (.ex _) .nil) .nil (by kernel_rfl)), trivial⟩ ?_
  refine AG.rk 1 [1, 2, 4, 5] [0, 1, 2, 6, 23, 27] 28 (todo' := [.code (sub (codeOf Try.f22) [1, 1, 1, 0]), .code (sub (codeOf Try.f22) [1, 1, 1, 1])]) (st' := ⟨mkT 20 [(1, .sv 1 0 (List.length bs)), (2, .p 2 0), (4, .p 6 0), (5, .p 27 0)], [(0, .view C), (1, .view (List.map (Value.int .u8) bs)), (2, .mix [.p 0 0]), (6, .own [Value.int .u64 0, Value.int .u64 0]), (23, .own S0), (27, .mix [.p 23 0])], 28⟩) (by kernel_rfl) (by kernel_rfl) ?_
  refine AG.gk [] [(1, useR [(0, 1, 0)] 32 ({ val := .s 1 0 L L, upd := [(1, .own (ar8 L F))], nks := [1] })), (3, useR [(4, 32, 0), (0, 2, 0), (1, 27, 0), (2, 0, 0), (3, 23, 0)] 40 ({ val := .tup [], upd := [(3, .own S1)], wks := [3] }))] [4, 5] [0, 1, 6, 23, 27] 28 (st' := ⟨mkT 20 [(4, .p 6 0), (5, .p 27 0)], [(0, .view C), (1, .view (List.map (Value.int .u8) bs)), (6, .own [Value.int .u64 0, Value.int .u64 0]), (23, .own S1), (27, .mix [.p 23 0])], 28⟩) (obs := [Ob.call (fun g => List.lookup g []) 29 [.sv 1 0 (List.length bs), .ex (.int .i64 16)] [(1, .view (List.map (Value.int .u8) bs))] (useR [(0, 1, 0)] 32 { val := .s 1 0 L L, upd := [(1, .own (ar8 L F))], nks := [1] }), Ob.call (fun g => List.lookup g []) 42 [.s 32 0 L L, .f 43 [2, 27]] [(32, .own (ar8 L F)), (2, .mix [.p 0 0]), (27, .mix [.p 23 0]), (0, .view C), (23, .own S0)] (useR [(4, 32, 0), (0, 2, 0), (1, 27, 0), (2, 0, 0), (3, 23, 0)] 40 { val := .tup [], upd := [(3, .own S1)], wks := [3] })]) (by kernel_rfl) (by kernel_rfl) ⟨(CallOK.at0 [(0, 1, 0)] 32 (c2 ) (.cons (.vv rfl) (.cons (.ex _) .nil)) (.cons rfl rfl ⟨_, rfl, (by exact cov_all _)⟩ .nil) (by kernel_rfl)), (CallOK.at0 [(4, 32, 0), (0, 2, 0), (1, 27, 0), (2, 0, 0), (3, 23, 0)] 40 (c3 ) (.cons (.vs rfl (by first | omega | (simp; done) | (simp; omega))) (.cons (.f rfl) .nil)) (.cons rfl rfl ⟨_, .inl rfl, rfl, (.cons (.p rfl) .nil), (by simp)⟩ (.cons rfl rfl ⟨_, .inl rfl, rfl, (.cons (.p rfl) .nil), (by simp)⟩ (.cons rfl rfl ⟨_, rfl, (by exact cov_all _)⟩ (.cons rfl rfl ⟨rfl, rfl⟩ (.cons rfl rfl ⟨_, rfl, (by exact cov_all _)⟩ .nil))))) (by kernel_rfl)), trivial⟩ ?_
  refine AG.rk 1 [4, 5] [0, 1, 6, 23, 27] 28 (todo' := [.code (sub (codeOf Try.f22) [1, 1, 1, 1, 0]), .code (sub (codeOf Try.f22) [1, 0, 1, 0, 1])]) (st' := ⟨mkT 20 [(4, .p 6 0), (5, .p 27 0)], [(0, .view C), (1, .view (List.map (Value.int .u8) bs)), (6, .own [Value.int .u64 0, Value.int .u64 0]), (23, .own S1), (27, .mix [.p 23 0])], 28⟩) (by kernel_rfl) (by kernel_rfl) ?_
  refine AG.gk [] [(1, useR [(0, 23, 0)] 32 ({ val := .ex (.agg #[Value.int .u64 X0, Value.int .u64 X1]) }))] [4] [0, 1, 6] 7 (st' := ⟨mkT 20 [(4, .p 6 0)], [(0, .view C), (1, .view (List.map (Value.int .u8) bs)), (6, .own [Value.int .u64 X0, Value.int .u64 X1])], 7⟩) (obs := [Ob.call (fun g => List.lookup g []) 41 [.p 23 0] [(23, .own S1)] (useR [(0, 23, 0)] 32 { val := .ex (.agg #[Value.int .u64 X0, Value.int .u64 X1]) })]) (by kernel_rfl) (by kernel_rfl) ⟨(CallOK.at0 [(0, 23, 0)] 32 (c4 ) (.cons (.p rfl) .nil) (.cons rfl rfl ⟨_, rfl, (by exact cov_all _)⟩ .nil) (by kernel_rfl)), trivial⟩ ?_
  refine AG.fin ([.ex (.agg { toList := [Value.int .u64 X0, Value.int .u64 X1] })]) Go.Proofs.Try.f22 fn22 (.inr ⟨_, rfl⟩) (obs := [Ob.le 2 2]) (by kernel_rfl) ⟨(Ob.holds_of_dec (by kernel_rfl)), trivial⟩ (by kernel_rfl) trivial (by kernel_rfl)
end Go.Proofs.Ytddnfcgbfpbagaa.Ab
