/- Own: a table's dot (no statement is proved here). -/
import Derived.Test.YtdfbcdgneboilaaDoorG4
import Derived.KernelRfl
namespace Go.Proofs.YtdfbcdgneboilaaDoor.Ab
open Go.Proofs
set_option linter.unusedSimpArgs false
set_option linter.unusedVariables false
/-- Digits of four bits, from the lowest on. -/
def nib (v : E) (t : Nat) : Nat := (v.toNat / 2 ^ (4 * t)) % 16
/-- What the digits so far come to. -/
def sd (v h : E) : Nat → E
  | 0 => 0#128
  | t + 1 => hn 4 (sd v h t) ^^^ tb h (nib v t)
theorem nib_bit (v : E) (t i : Nat) (hi : i < 4) : (nib v t).testBit i = v.getLsbD (4 * t + i) := by
  unfold nib
  rw [show (16 : Nat) = 2 ^ 4 from rfl, Nat.testBit_mod_two_pow, ← Nat.shiftRight_eq_div_pow, Nat.testBit_shiftRight]
  simp [hi]; rfl
theorem tb_bits (h : E) (d : Nat) (hd : d < 16) : tb h d = xsum 4 (fun i => sel (d.testBit i) (hn (4 - i) h)) := by
  show tb h d = (((0#128 ^^^ sel (d.testBit 0) (hn 4 h)) ^^^ sel (d.testBit 1) (hn 3 h)) ^^^ sel (d.testBit 2) (hn 2 h)) ^^^ sel (d.testBit 3) (hn 1 h)
  rcases (by omega : d = 0 ∨ d = 1 ∨ d = 2 ∨ d = 3 ∨ d = 4 ∨ d = 5 ∨ d = 6 ∨ d = 7 ∨ d = 8 ∨ d = 9 ∨ d = 10 ∨ d = 11 ∨ d = 12 ∨ d = 13 ∨ d = 14 ∨ d = 15) with rfl | rfl | rfl | rfl | rfl | rfl | rfl | rfl | rfl | rfl | rfl | rfl | rfl | rfl | rfl | rfl <;> simp [tb, sel, Nat.testBit, Nat.shiftRight_eq_div_pow]
theorem xsum_split (n m : Nat) (f : Nat → E) : xsum (n + m) f = xsum n f ^^^ xsum m (fun i => f (n + i)) := by
  induction m with
  | zero => simp [xsum]
  | succ m ih =>
    show xsum (n + m) f ^^^ f (n + m) = xsum n f ^^^ (xsum m (fun i => f (n + i)) ^^^ f (n + m))
    rw [ih, BitVec.xor_assoc]
theorem sd_eq (v h : E) (t : Nat) : sd v h t = xsum (4 * t) (fun k => sel (v.getLsbD k) (hn (4 * t - k) h)) := by
  induction t with
  | zero => rfl
  | succ t ih =>
    unfold sd
    rw [ih, (lin_hn 4).sum, tb_bits h (nib v t) (Nat.mod_lt _ (by decide)), Nat.mul_add, xsum_split]
    congr 1
    · refine xsum_congr fun k hk => ?_
      rw [(lin_hn 4).sel, ← hn_add, show 4 + (4 * t - k) = 4 * t + 4 * 1 - k by omega]
    · refine xsum_congr fun i hi => ?_
      rw [nib_bit v t i hi, show 4 * t + 4 * 1 - (4 * t + i) = 4 - i by omega]
theorem sd_dot (v h : E) : sd v h 32 = dot v h := by
  rw [sd_eq]
  unfold dot act
  rw [(lin_hn 128).sum]
  refine xsum_congr fun k hk => ?_
  rw [(lin_hn 128).sel]
  congr 1
  have e : 128 = (128 - k) + k := by omega
  have h1 := hn_add (128 - k) k (dn lov k h)
  rw [← e, hn_dn] at h1
  rw [h1]
theorem byt_toNat (v : E) (j : Nat) (hj : j < 16) : byt v j = ((v.toNat / 2 ^ (8 * j) % 256 : Nat) : Int) := by
  have hv := v.isLt
  have e1 : (lo v).toNat = v.toNat % 2 ^ 64 := by unfold lo; rw [BitVec.toNat_setWidth]
  have e2 : (hi v).toNat = v.toNat / 2 ^ 64 := by
    unfold hi
    rw [BitVec.toNat_setWidth, BitVec.toNat_ushiftRight, Nat.shiftRight_eq_div_pow]
    exact Nat.mod_eq_of_lt (by omega)
  unfold byt B
  rw [putw_eq, putw_eq, e1, e2]
  generalize v.toNat = n at *
  by_cases h : j < 8
  · rw [if_pos h]
    rcases (by omega : j = 0 ∨ j = 1 ∨ j = 2 ∨ j = 3 ∨ j = 4 ∨ j = 5 ∨ j = 6 ∨ j = 7) with rfl | rfl | rfl | rfl | rfl | rfl | rfl | rfl <;> simp <;> omega
  · rw [if_neg h]
    obtain ⟨q, rfl⟩ : ∃ q, j = 8 + q := ⟨j - 8, by omega⟩
    have hq : q < 8 := by omega
    rw [Nat.add_sub_cancel_left]
    rcases (by omega : q = 0 ∨ q = 1 ∨ q = 2 ∨ q = 3 ∨ q = 4 ∨ q = 5 ∨ q = 6 ∨ q = 7) with rfl | rfl | rfl | rfl | rfl | rfl | rfl | rfl <;> simp <;> omega
theorem digit_e (v : E) (t : Nat) (ht : t < 32) : ((byt v (t / 2)).fdiv (2 ^ min ((4 * (t % 2) : Nat) : Int).toNat 8)).tmod 16 = ((nib v t : Nat) : Int) := by
  rw [byt_toNat v _ (by omega)]
  unfold nib
  generalize v.toNat = n
  have h2 : t % 2 = 0 ∨ t % 2 = 1 := by omega
  have key : ∀ a b : Nat, (((n / 2 ^ (8 * a) % 256 : Nat) : Int).fdiv (2 ^ min ((4 * b : Nat) : Int).toNat 8)).tmod 16 = ((n / 2 ^ (8 * a) % 256 / 2 ^ (4 * b) % 16 : Nat) : Int) ∨ 8 < 4 * b := fun a b => by
    by_cases hb : 8 < 4 * b
    · exact .inr hb
    · refine .inl ?_
      rw [Int.toNat_natCast, Nat.min_eq_left (by omega)]
      generalize n / 2 ^ (8 * a) % 256 = m
      have e : (2 : Int) ^ (4 * b) = ((2 ^ (4 * b) : Nat) : Int) := by simp
      rw [e, Int.fdiv_eq_ediv_of_nonneg _ (Int.natCast_nonneg _), Int.tmod_eq_emod_of_nonneg (Int.ediv_nonneg (Int.natCast_nonneg _) (Int.natCast_nonneg _))]
      simp
  rcases h2 with h2 | h2
  · rw [h2]
    rcases key (t / 2) 0 with k | k
    · rw [k, show 4 * t = 8 * (t / 2) by omega]
      generalize n / 2 ^ (8 * (t / 2)) = m
      congr 1
      simp
    · omega
  · rw [h2]
    rcases key (t / 2) 1 with k | k
    · rw [k, show 4 * t = 8 * (t / 2) + 4 by omega, Nat.pow_add, ← Nat.div_div_eq_div_mul]
      generalize n / 2 ^ (8 * (t / 2)) = m
      congr 1
      simp
      omega
    · omega
theorem tab_at (h : E) (d : Nat) (hd : d < 16) : List.take 2 (List.drop (0 + ((d : Nat) : Int).toNat * 2) (tabC h)) = [Value.int .u64 (B (lo (tb h d))), Value.int .u64 (B (hi (tb h d)))] := by
  rw [Int.toNat_natCast]
  rcases (by omega : d = 0 ∨ d = 1 ∨ d = 2 ∨ d = 3 ∨ d = 4 ∨ d = 5 ∨ d = 6 ∨ d = 7 ∨ d = 8 ∨ d = 9 ∨ d = 10 ∨ d = 11 ∨ d = 12 ∨ d = 13 ∨ d = 14 ∨ d = 15) with rfl | rfl | rfl | rfl | rfl | rfl | rfl | rfl | rfl | rfl | rfl | rfl | rfl | rfl | rfl | rfl <;> rfl
theorem tab_len (h : E) : (tabC h).length = 32 := rfl
theorem dott_e (v h : E) : CallOK Tryd.prog (fun _ => none) 69 [.p 0 0, .ex (.agg (ar8 16 (byt v)).toArray)] [(0, .view (tabC h))] { val := .ex (.agg (ar8 16 (byt (dot v h))).toArray) } := by
  generalize hT : tabC h = Tb
  refine CallOK.from0 hmix Tryd.f69 1 fn69 (by kernel_rfl) (by kernel_rfl) (fun w ρ h1 h2 => ?_)
  refine AG.rk 13 [0, 3, 4, 5, 11] [0, 1, 5, 17] 18 (todo' := [.code (sub (codeOf Tryd.f69) [1, 1, 1, 0, 1, 0]), .inBlock 0, .code (sub (codeOf Tryd.f69) [1, 1, 1, 1])]) (st' := ⟨mkT 35 [(0, .p 0 0), (3, .p 1 0), (4, .p 5 0), (5, .p 17 0), (11, .ex (.int .i64 0))], [(0, .view Tb), (1, .own (ar8 16 (byt v))), (5, .own (List.replicate 16 (Value.int .u8 0))), (17, .own [Value.int .u64 0, Value.int .u64 0])], 18⟩) (by kernel_rfl) (by kernel_rfl) ?_
  refine AG.rk 1 [0, 3, 4, 5, 11] [0, 1, 5, 17] 18 (todo' := [.code (sub (codeOf Tryd.f69) [1, 1, 1, 0, 1, 0, 0]), .inLoop (sub (codeOf Tryd.f69) [1, 1, 1, 0, 1, 0, 0]), .inBlock 0, .code (sub (codeOf Tryd.f69) [1, 1, 1, 1])]) (st' := ⟨mkT 35 [(0, .p 0 0), (3, .p 1 0), (4, .p 5 0), (5, .p 17 0), (11, .ex (.int .i64 0))], [(0, .view Tb), (1, .own (ar8 16 (byt v))), (5, .own (List.replicate 16 (Value.int .u8 0))), (17, .own [Value.int .u64 0, Value.int .u64 0])], 18⟩) (by kernel_rfl) (by kernel_rfl) ?_
  have hTl : Tb.length = 32 := by rw [← hT]; rfl
  refine AG.indE (α := {x : Nat × E // x.1 ≤ 32 ∧ x.2 = sd v h x.1}) (fun x => 32 - x.1.1)
    (fun x => ⟨mkT 35 [(0, .p 0 0), (3, .p 1 0), (4, .p 5 0), (5, .p 17 0), (11, .ex (.int .i64 (x.1.1 : Int)))], [(0, .view Tb), (1, .own (ar8 16 (byt v))), (5, .own (List.replicate 16 (Value.int IntKind.u8 0))), (17, .own [Value.int IntKind.u64 (B (lo x.1.2)), Value.int IntKind.u64 (B (hi x.1.2))])], 18⟩) ⟨(0, 0#128), by simp, rfl⟩ (by kernel_rfl) ?_
  rintro ⟨⟨t, s⟩, ht, hs⟩ ih
  simp only at ht hs ih ⊢
  refine AG.rk 3 [0, 3, 4, 5, 11, 12] [0, 1, 5, 17] 18 (todo' := [.code (sub (codeOf Tryd.f69) [1, 1, 1, 0, 1, 0, 0, 1, 0]), .code (sub (codeOf Tryd.f69) [1, 1, 1, 0, 1, 0, 0, 1, 1]), .inLoop (sub (codeOf Tryd.f69) [1, 1, 1, 0, 1, 0, 0]), .inBlock 0, .code (sub (codeOf Tryd.f69) [1, 1, 1, 1])]) (st' := ⟨mkT 35 [(0, .p 0 0), (3, .p 1 0), (4, .p 5 0), (5, .p 17 0), (11, .ex (.int .i64 (↑t : Int))), (12, .ex (.bool (decide ((↑t : Int) < 32))))], [(0, .view Tb), (1, .own (ar8 16 (byt v))), (5, .own (List.replicate 16 (Value.int .u8 0))), (17, .own [Value.int .u64 (B (lo s)), Value.int .u64 (B (hi s))])], 18⟩) (by kernel_rfl) (by kernel_rfl) ?_
  refine AG.cond (b := decide ((↑t : Int) < 32)) (by kernel_rfl) (fun hc => ?_) (fun hc => ?_)
  · have ht' : t < 32 := by simp at hc; omega
    clear hc
    have e5 : IntKind.i64.wrap ((t : Int) + 1) = ((t + 1 : Nat) : Int) := by rw [wrap64_id _ (by omega) (by omega)]; omega
    have e6 : IntKind.i64.wrap ((t : Int).tdiv 2) = ((t / 2 : Nat) : Int) := by rw [Int.tdiv_eq_ediv_of_nonneg (by omega), wrap64_id _ (by omega) (by omega)]; omega
    have e7 : (t : Int).tmod 2 = ((t % 2 : Nat) : Int) := by rw [Int.tmod_eq_emod_of_nonneg (by omega)]; omega
    have e8 : IntKind.i64.wrap (4 * ((t % 2 : Nat) : Int)) = ((4 * (t % 2) : Nat) : Int) := by rw [wrap64_id _ (by omega) (by omega)]; omega
    have e9 : (ar8 16 (byt v)).getD (0 + ((t / 2 : Nat) : Int).toNat * 1) undef = .int .u8 (byt v (t / 2)) := get_ar8 16 (byt v) ((t / 2 : Nat)) (by omega) (by omega)
    have e10 := digit_e v t ht'
    have hnb : nib v t < 16 := Nat.mod_lt _ (by decide)
    have e11 := tab_at h (nib v t) hnb
    rw [hT] at e11
    have cp := rplus_e (hn 4 s) (tb h (nib v t))
    unfold wd at cp
    rw [← e11] at cp
    have cd := divided4_e s
    refine AG.rk 6 [0, 3, 4, 5, 6, 11] [0, 1, 5, 17] 18 (todo' := [.code (sub (codeOf Tryd.f69) [1, 1, 1, 0, 1, 0, 0, 1, 1, 0, 0, 1, 0]), .code (sub (codeOf Tryd.f69) [1, 1, 1, 0, 1, 0, 0, 1, 1, 0, 0, 1, 1]), .inBlock 1, .code (sub (codeOf Tryd.f69) [1, 1, 1, 0, 1, 0, 0, 1, 1, 1]), .inLoop (sub (codeOf Tryd.f69) [1, 1, 1, 0, 1, 0, 0]), .inBlock 0, .code (sub (codeOf Tryd.f69) [1, 1, 1, 1])]) (st' := ⟨mkT 35 [(0, .p 0 0), (3, .p 1 0), (4, .p 5 0), (5, .p 17 0), (6, .ex (.int .i64 (↑t : Int))), (11, .ex (.int .i64 (↑t : Int)))], [(0, .view Tb), (1, .own (ar8 16 (byt v))), (5, .own (List.replicate 16 (Value.int .u8 0))), (17, .own [Value.int .u64 (B (lo s)), Value.int .u64 (B (hi s))])], 18⟩) (by kernel_rfl) (by kernel_rfl) ?_
    refine AG.gk [2] [(1, { val := .ex (.int .i64 (↑(t / 2) : Int)) }), (3, { val := .ex (.int .u8 (byt v (t / 2))) }), (5, { val := .ex (.int .i64 (↑(t % 2) : Int)) }), (6, { val := .ex (.int .i64 (↑(4 * (t % 2)) : Int)) }), (8, { val := .ex (.int .u8 (↑(nib v t) : Int)) })] [0, 3, 4, 5, 7, 11] [0, 1, 5, 17] 18 (st' := ⟨mkT 35 [(0, .p 0 0), (3, .p 1 0), (4, .p 5 0), (5, .p 17 0), (7, .ex (.int .u8 (↑(nib v t) : Int))), (11, .ex (.int .i64 (↑t : Int)))], [(0, .view Tb), (1, .own (ar8 16 (byt v))), (5, .own (List.replicate 16 (Value.int .u8 0))), (17, .own [Value.int .u64 (B (lo s)), Value.int .u64 (B (hi s))])], 18⟩) (obs := [Ob.eq (.ex (.int .i64 (IntKind.wrap .i64 (Int.tdiv (↑t : Int) 2)))) (.ex (.int .i64 (↑(t / 2) : Int))), Ob.le 1 2, Ob.ix (↑(t / 2) : Int) 16, Ob.eq (.ex (List.getD (ar8 16 (byt v)) (0 + Int.toNat (↑(t / 2) : Int) * 1) undef)) (.ex (.int .u8 (byt v (t / 2)))), Ob.le (0 + Int.toNat (↑(t / 2) : Int) * 1 + 1) 16, Ob.eq (.ex (.int .i64 (Int.tmod (↑t : Int) 2))) (.ex (.int .i64 (↑(t % 2) : Int))), Ob.le 1 2, Ob.eq (.ex (.int .i64 (IntKind.wrap .i64 (4 * (↑(t % 2) : Int))))) (.ex (.int .i64 (↑(4 * (t % 2)) : Int))), Ob.eq (.ex (.int .u8 (Int.tmod (Int.fdiv (byt v (t / 2)) (2 ^ min (Int.toNat (↑(4 * (t % 2)) : Int)) 8)) 16))) (.ex (.int .u8 (↑(nib v t) : Int))), Ob.le 1 16]) (by kernel_rfl) (by kernel_rfl) ⟨(by simp only [Ob.holds, e6]), (Ob.holds_of_dec (by kernel_rfl)), (by (simp only [Ob.holds]; omega)), (by simp only [Ob.holds, e9]), (by (simp only [Ob.holds]; omega)), (by simp only [Ob.holds, e7]), (Ob.holds_of_dec (by kernel_rfl)), (by simp only [Ob.holds, e8]), (by simp only [Ob.holds, e10]), (Ob.holds_of_dec (by kernel_rfl)), trivial⟩ ?_
    refine AG.gk [6, 7] [(1, { val := .ex (wd (hn 4 s)) }), (8, { val := .ex (.agg #[Value.int .u64 (B (lo (hn 4 s ^^^ tb h (nib v t)))), Value.int .u64 (B (hi (hn 4 s ^^^ tb h (nib v t))))]) })] [0, 3, 4, 5, 11] [0, 1, 5, 17] 18 (st' := ⟨mkT 35 [(0, .p 0 0), (3, .p 1 0), (4, .p 5 0), (5, .p 17 0), (11, .ex (.int .i64 (↑t : Int)))], [(0, .view Tb), (1, .own (ar8 16 (byt v))), (5, .own (List.replicate 16 (Value.int .u8 0))), (17, .own [Value.int .u64 (B (lo (hn 4 s ^^^ tb h (nib v t)))), Value.int .u64 (B (hi (hn 4 s ^^^ tb h (nib v t))))])], 18⟩) (obs := [Ob.call (fun g => List.lookup g []) 76 [.ex (.agg { toList := [Value.int .u64 (B (lo s)), Value.int .u64 (B (hi s))] }), .ex (.int .i64 4)] [] { val := .ex (wd (hn 4 s)) }, Ob.ix (↑(nib v t) : Int) 16, Ob.le (0 + Int.toNat (↑(nib v t) : Int) * 2 + 2) (List.length Tb), Ob.call (fun g => List.lookup g []) 78 [.ex (.agg { toList := [Value.int .u64 (B (lo (hn 4 s))), Value.int .u64 (B (hi (hn 4 s)))] }), .ex (.agg { toList := List.take 2 (List.drop (0 + Int.toNat (↑(nib v t) : Int) * 2) Tb) })] [] { val := .ex (.agg #[Value.int .u64 (B (lo (hn 4 s ^^^ tb h (nib v t)))), Value.int .u64 (B (hi (hn 4 s ^^^ tb h (nib v t))))]) }]) (by kernel_rfl) (by kernel_rfl) ⟨((cd ).gl), (by (simp only [Ob.holds]; omega)), (by (simp only [Ob.holds]; omega)), ((cp ).gl), trivial⟩ ?_
    refine AG.rk 3 [0, 3, 4, 5, 11] [0, 1, 5, 17] 18 (todo' := [.code (sub (codeOf Tryd.f69) [1, 1, 1, 0, 1, 0, 0]), .inLoop (sub (codeOf Tryd.f69) [1, 1, 1, 0, 1, 0, 0]), .inBlock 0, .code (sub (codeOf Tryd.f69) [1, 1, 1, 1])]) (st' := ⟨mkT 35 [(0, .p 0 0), (3, .p 1 0), (4, .p 5 0), (5, .p 17 0), (11, .ex (.int .i64 (IntKind.wrap .i64 ((↑t : Int) + 1))))], [(0, .view Tb), (1, .own (ar8 16 (byt v))), (5, .own (List.replicate 16 (Value.int .u8 0))), (17, .own [Value.int .u64 (B (lo (hn 4 s ^^^ tb h (nib v t)))), Value.int .u64 (B (hi (hn 4 s ^^^ tb h (nib v t))))])], 18⟩) (by kernel_rfl) (by kernel_rfl) ?_
    rewrite [e5]
    exact AG.conv (by kernel_rfl) (ih ⟨(t + 1, hn 4 s ^^^ tb h (nib v t)), ht', by simp only; rw [hs]; rfl⟩ (by simp only; omega))
  · obtain rfl : t = 32 := by simp at hc; omega
    clear hc ih
    rw [sd_dot] at hs
    have c1 := bytes_e s
    rw [← hs]
    refine AG.rk 2 [4, 5] [0, 5, 17] 18 (todo' := [.code (sub (codeOf Tryd.f69) [1, 1, 1, 1, 0]), .code (sub (codeOf Tryd.f69) [1, 0, 1, 0, 1])]) (st' := ⟨mkT 35 [(4, .p 5 0), (5, .p 17 0)], [(0, .view Tb), (5, .own (List.replicate 16 (Value.int .u8 0))), (17, .own [Value.int .u64 (B (lo s)), Value.int .u64 (B (hi s))])], 18⟩) (by kernel_rfl) (by kernel_rfl) ?_
    refine AG.gk [] [(1, { val := .ex (.agg (List.toArray (ar8 16 (byt s)))) })] [4] [0, 5] 6 (st' := ⟨mkT 35 [(4, .p 5 0)], [(0, .view Tb), (5, .own (ar8 16 (byt s)))], 6⟩) (obs := [Ob.call (fun g => List.lookup g []) 58 [.ex (.agg { toList := [Value.int .u64 (B (lo s)), Value.int .u64 (B (hi s))] })] [] { val := .ex (.agg (List.toArray (ar8 16 (byt s)))) }]) (by kernel_rfl) (by kernel_rfl) ⟨((c1 ).gl), trivial⟩ ?_
    refine AG.fin ([.ex (.agg { toList := ar8 16 (byt s) })]) Go.Proofs.Tryd.f69 fn69 (.inr ⟨_, rfl⟩) (obs := [Ob.le 16 16]) (by kernel_rfl) ⟨(Ob.holds_of_dec (by kernel_rfl)), trivial⟩ (by kernel_rfl) trivial (by kernel_rfl)
end Go.Proofs.YtdfbcdgneboilaaDoor.Ab
