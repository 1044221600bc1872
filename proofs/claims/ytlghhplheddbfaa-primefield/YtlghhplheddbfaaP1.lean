/- Own: carries of layer 7 (no statement is proved here). -/
import Derived.Test.YtlghhplheddbfaaA4
import Derived.Test.YtlghhplheddbfaaProg
import Derived.WalkArith
import Derived.KernelRfl
namespace Go.Proofs.Ytlghhplheddbfaa.Ab
open Go.Proofs
theorem hmix : Try.prog.follows .mixedOrders = true := by kernel_rfl
def ar32 (n : Nat) (s : Nat → Int) : List Value := (List.range n).map fun i => .int .u32 (s i)
def ar64 (n : Nat) (s : Nat → Int) : List Value := (List.range n).map fun i => .int .u64 (s i)
def ar8 (n : Nat) (s : Nat → Int) : List Value := (List.range n).map fun i => .int .u8 (s i)
theorem fn33 : Try.prog.funcs[33]? = some Try.f33 := by kernel_rfl
theorem fn26 : Try.prog.funcs[26]? = some Try.f26 := by kernel_rfl
def m26 (x : Int) : Int := IntKind.u64.wrap ((BitVec.ofInt 64 x &&& BitVec.ofInt 64 67108863).toNat : Int)
def cS (p : Nat → Int) : Nat → Int
  | 0 => IntKind.u64.wrap (p 0 + 0)
  | i + 1 => IntKind.u64.wrap (p (i + 1) + (cS p i).fdiv 67108864)
def carr (p : Nat → Int) (i : Nat) : Int := if i = 0 then IntKind.u64.wrap (m26 (cS p 0) + IntKind.u64.wrap (5 * (cS p 4).fdiv 67108864)) else m26 (cS p i)
theorem carried_ok (p : Nat → Int) : CallOK Try.prog (fun _ => none) 33 [.ex (.agg (ar64 5 p).toArray)] [] { val := .ex (.agg (ar64 5 (carr p)).toArray) } := by
  refine CallOK.from0 hmix Try.f33 0 fn33 (by kernel_rfl) (by kernel_rfl) (fun w ρ h1 h2 => ?_)
  refine AG.rk 93 [2] [4] 5 (todo' := [.code (sub (codeOf Try.f33) [1, 1, 1, 1, 1])]) (st' := ⟨mkT 28 [(2, .p 4 0)], [(4, .own [.int .u64 (IntKind.wrap .u64 (IntKind.wrap .u64 ↑(BitVec.toNat (BitVec.ofInt 64 (IntKind.wrap .u64 (p 0 + 0)) &&& BitVec.ofInt 64 67108863)) + IntKind.wrap .u64 (5 * Int.fdiv (IntKind.wrap .u64 (p 4 + Int.fdiv (IntKind.wrap .u64 (p 3 + Int.fdiv (IntKind.wrap .u64 (p 2 + Int.fdiv (IntKind.wrap .u64 (p 1 + Int.fdiv (IntKind.wrap .u64 (p 0 + 0)) 67108864)) 67108864)) 67108864)) 67108864)) 67108864))), .int .u64 (IntKind.wrap .u64 ↑(BitVec.toNat (BitVec.ofInt 64 (IntKind.wrap .u64 (p 1 + Int.fdiv (IntKind.wrap .u64 (p 0 + 0)) 67108864)) &&& BitVec.ofInt 64 67108863))), .int .u64 (IntKind.wrap .u64 ↑(BitVec.toNat (BitVec.ofInt 64 (IntKind.wrap .u64 (p 2 + Int.fdiv (IntKind.wrap .u64 (p 1 + Int.fdiv (IntKind.wrap .u64 (p 0 + 0)) 67108864)) 67108864)) &&& BitVec.ofInt 64 67108863))), .int .u64 (IntKind.wrap .u64 ↑(BitVec.toNat (BitVec.ofInt 64 (IntKind.wrap .u64 (p 3 + Int.fdiv (IntKind.wrap .u64 (p 2 + Int.fdiv (IntKind.wrap .u64 (p 1 + Int.fdiv (IntKind.wrap .u64 (p 0 + 0)) 67108864)) 67108864)) 67108864)) &&& BitVec.ofInt 64 67108863))), .int .u64 (IntKind.wrap .u64 ↑(BitVec.toNat (BitVec.ofInt 64 (IntKind.wrap .u64 (p 4 + Int.fdiv (IntKind.wrap .u64 (p 3 + Int.fdiv (IntKind.wrap .u64 (p 2 + Int.fdiv (IntKind.wrap .u64 (p 1 + Int.fdiv (IntKind.wrap .u64 (p 0 + 0)) 67108864)) 67108864)) 67108864)) 67108864)) &&& BitVec.ofInt 64 67108863)))])], 5⟩) (by kernel_rfl) (by kernel_rfl) ?_
  refine AG.fin ([.ex (.agg { toList := [.int .u64 (IntKind.wrap .u64 (IntKind.wrap .u64 ↑(BitVec.toNat (BitVec.ofInt 64 (IntKind.wrap .u64 (p 0 + 0)) &&& BitVec.ofInt 64 67108863)) + IntKind.wrap .u64 (5 * Int.fdiv (IntKind.wrap .u64 (p 4 + Int.fdiv (IntKind.wrap .u64 (p 3 + Int.fdiv (IntKind.wrap .u64 (p 2 + Int.fdiv (IntKind.wrap .u64 (p 1 + Int.fdiv (IntKind.wrap .u64 (p 0 + 0)) 67108864)) 67108864)) 67108864)) 67108864)) 67108864))), .int .u64 (IntKind.wrap .u64 ↑(BitVec.toNat (BitVec.ofInt 64 (IntKind.wrap .u64 (p 1 + Int.fdiv (IntKind.wrap .u64 (p 0 + 0)) 67108864)) &&& BitVec.ofInt 64 67108863))), .int .u64 (IntKind.wrap .u64 ↑(BitVec.toNat (BitVec.ofInt 64 (IntKind.wrap .u64 (p 2 + Int.fdiv (IntKind.wrap .u64 (p 1 + Int.fdiv (IntKind.wrap .u64 (p 0 + 0)) 67108864)) 67108864)) &&& BitVec.ofInt 64 67108863))), .int .u64 (IntKind.wrap .u64 ↑(BitVec.toNat (BitVec.ofInt 64 (IntKind.wrap .u64 (p 3 + Int.fdiv (IntKind.wrap .u64 (p 2 + Int.fdiv (IntKind.wrap .u64 (p 1 + Int.fdiv (IntKind.wrap .u64 (p 0 + 0)) 67108864)) 67108864)) 67108864)) &&& BitVec.ofInt 64 67108863))), .int .u64 (IntKind.wrap .u64 ↑(BitVec.toNat (BitVec.ofInt 64 (IntKind.wrap .u64 (p 4 + Int.fdiv (IntKind.wrap .u64 (p 3 + Int.fdiv (IntKind.wrap .u64 (p 2 + Int.fdiv (IntKind.wrap .u64 (p 1 + Int.fdiv (IntKind.wrap .u64 (p 0 + 0)) 67108864)) 67108864)) 67108864)) 67108864)) &&& BitVec.ofInt 64 67108863)))] })]) Go.Proofs.Try.f33 fn33 (.inr ⟨_, rfl⟩) (obs := [Ob.le 5 5]) (by kernel_rfl) ⟨(Ob.holds_of_dec (by kernel_rfl)), trivial⟩ (by kernel_rfl) trivial (by kernel_rfl)
theorem wrap_u64 (x : Int) : IntKind.u64.wrap x = x % 18446744073709551616 := by simp [IntKind.wrap, IntKind.signed, IntKind.bits]
theorem wrap_u32 (x : Int) : IntKind.u32.wrap x = x % 4294967296 := by rw [IntKind.wrap_u32]
theorem wrap_u8 (x : Int) : IntKind.u8.wrap x = x % 256 := by rw [IntKind.wrap_u8]
theorem m26_eq (x : Int) (h : 0 ≤ x) (h' : x < 18446744073709551616) : m26 x = x % 67108864 := by
  obtain ⟨n, rfl⟩ := Int.eq_ofNat_of_zero_le h
  unfold m26
  have e1 : (BitVec.ofInt 64 (n : Int) &&& BitVec.ofInt 64 67108863).toNat = n % 67108864 := by
    rw [BitVec.toNat_and]
    have a1 : (BitVec.ofInt 64 (n : Int)).toNat = n := by rw [BitVec.toNat_ofInt]; omega
    have a2 : (BitVec.ofInt 64 67108863).toNat = 2 ^ 26 - 1 := by decide
    rw [a1, a2, Nat.and_two_pow_sub_one_eq_mod]
  rw [e1, wrap_u64]
  omega
def V (p : Nat → Int) : Int := p 0 + 67108864 * p 1 + 4503599627370496 * p 2 + 302231454903657293676544 * p 3 + 20282409603651670423947251286016 * p 4
def PP : Int := 1361129467683753853853498429727072845819
def Fit5 (p : Nat → Int) : Prop := ∀ i, i < 5 → 0 ≤ p i ∧ p i ≤ 9223372036854775808
/-- What is carried, reckoned. -/
theorem carr_eqs (p : Nat → Int) (h : Fit5 p) : ∃ c : Nat → Int, c 0 = p 0 / 67108864 ∧ c 1 = (p 1 + c 0) / 67108864 ∧ c 2 = (p 2 + c 1) / 67108864 ∧ c 3 = (p 3 + c 2) / 67108864 ∧ c 4 = (p 4 + c 3) / 67108864 ∧
    carr p 0 = p 0 % 67108864 + 5 * c 4 ∧ carr p 1 = (p 1 + c 0) % 67108864 ∧ carr p 2 = (p 2 + c 1) % 67108864 ∧ carr p 3 = (p 3 + c 2) % 67108864 ∧ carr p 4 = (p 4 + c 3) % 67108864 := by
  have h0 := h 0 (by decide); have h1 := h 1 (by decide); have h2 := h 2 (by decide); have h3 := h 3 (by decide); have h4 := h 4 (by decide)
  have fd : ∀ x : Int, x.fdiv 67108864 = x / 67108864 := fun x => Int.fdiv_eq_ediv_of_nonneg x (by decide)
  have s0 : cS p 0 = p 0 := by unfold cS; rw [wrap_u64]; omega
  have s1 : cS p 1 = p 1 + p 0 / 67108864 := by show IntKind.u64.wrap (p 1 + (cS p 0).fdiv 67108864) = _; rw [wrap_u64, s0, fd]; omega
  have s2 : cS p 2 = p 2 + (p 1 + p 0 / 67108864) / 67108864 := by show IntKind.u64.wrap (p 2 + (cS p 1).fdiv 67108864) = _; rw [wrap_u64, s1, fd]; omega
  have s3 : cS p 3 = p 3 + (p 2 + (p 1 + p 0 / 67108864) / 67108864) / 67108864 := by show IntKind.u64.wrap (p 3 + (cS p 2).fdiv 67108864) = _; rw [wrap_u64, s2, fd]; omega
  have s4 : cS p 4 = p 4 + (p 3 + (p 2 + (p 1 + p 0 / 67108864) / 67108864) / 67108864) / 67108864 := by show IntKind.u64.wrap (p 4 + (cS p 3).fdiv 67108864) = _; rw [wrap_u64, s3, fd]; omega
  refine ⟨fun i => cS p i / 67108864, by simp only [s0], by simp only [s0, s1], by simp only [s1, s2], by simp only [s2, s3], by simp only [s3, s4], ?_, ?_, ?_, ?_, ?_⟩
  · show (if (0 : Nat) = 0 then _ else _) = _
    show _ = p 0 % 67108864 + 5 * (cS p 4 / 67108864)
    rw [if_pos rfl, m26_eq _ (by rw [s0]; omega) (by rw [s0]; omega), s0, s4, fd, wrap_u64, wrap_u64]; omega
  · show (if (1 : Nat) = 0 then _ else _) = _
    rw [if_neg (by decide), m26_eq _ (by rw [s1]; omega) (by rw [s1]; omega)]; simp only [s1, s0]
  · show (if (2 : Nat) = 0 then _ else _) = _
    rw [if_neg (by decide), m26_eq _ (by rw [s2]; omega) (by rw [s2]; omega)]; simp only [s2, s1]
  · show (if (3 : Nat) = 0 then _ else _) = _
    rw [if_neg (by decide), m26_eq _ (by rw [s3]; omega) (by rw [s3]; omega)]; simp only [s3, s2]
  · show (if (4 : Nat) = 0 then _ else _) = _
    rw [if_neg (by decide), m26_eq _ (by rw [s4]; omega) (by rw [s4]; omega)]; simp only [s4, s3]
theorem carr_fit (p : Nat → Int) (h : Fit5 p) : Fit5 (carr p) := by
  obtain ⟨c, e0, e1, e2, e3, e4, f0, f1, f2, f3, f4⟩ := carr_eqs p h
  have h0 := h 0 (by decide); have h1 := h 1 (by decide); have h2 := h 2 (by decide); have h3 := h 3 (by decide); have h4 := h 4 (by decide)
  intro i hi
  match i, hi with
  | 0, _ => rw [f0]; omega
  | 1, _ => rw [f1]; omega
  | 2, _ => rw [f2]; omega
  | 3, _ => rw [f3]; omega
  | 4, _ => rw [f4]; omega
/-- A round of carries takes the prime away, so many times. -/
theorem carr_V (p : Nat → Int) (h : Fit5 p) : ∃ c : Int, 0 ≤ c ∧ V (carr p) = V p - c * 1361129467683753853853498429727072845819 ∧ (c = 0 → ∀ i, i < 5 → carr p i < 67108864) := by
  obtain ⟨c, e0, e1, e2, e3, e4, f0, f1, f2, f3, f4⟩ := carr_eqs p h
  have h0 := h 0 (by decide); have h1 := h 1 (by decide); have h2 := h 2 (by decide); have h3 := h 3 (by decide); have h4 := h 4 (by decide)
  refine ⟨c 4, by omega, ?_, fun hc i hi => ?_⟩
  · unfold V; rw [f0, f1, f2, f3, f4]; omega
  · match i, hi with
    | 0, _ => rw [f0]; omega
    | 1, _ => rw [f1]; omega
    | 2, _ => rw [f2]; omega
    | 3, _ => rw [f3]; omega
    | 4, _ => rw [f4]; omega
/-- The parts of a number. -/
def prts (v : Int) (i : Nat) : Int := v / 67108864 ^ i % 67108864
theorem ar32_congr {n : Nat} {s t : Nat → Int} (h : ∀ i, i < n → s i = t i) : ar32 n s = ar32 n t := by
  unfold ar32
  exact List.map_congr_left fun i hi => by rw [h i (by simpa using hi)]
def Low5 (q : Nat → Int) : Prop := ∀ i, i < 5 → 0 ≤ q i ∧ q i < 67108864
theorem prts_V (q : Nat → Int) (h : Low5 q) (i : Nat) (hi : i < 5) : prts (V q) i = q i := by
  have h0 := h 0 (by decide); have h1 := h 1 (by decide); have h2 := h 2 (by decide); have h3 := h 3 (by decide); have h4 := h 4 (by decide)
  unfold prts V
  match i, hi with
  | 0, _ => show _ / (1 : Int) % _ = _; omega
  | 1, _ => show _ / (67108864 : Int) % _ = _; omega
  | 2, _ => show _ / (4503599627370496 : Int) % _ = _; omega
  | 3, _ => show _ / (302231454903657293676544 : Int) % _ = _; omega
  | 4, _ => show _ / (20282409603651670423947251286016 : Int) % _ = _; omega
theorem V_range (q : Nat → Int) (h : Low5 q) : 0 ≤ V q ∧ V q < 1361129467683753853853498429727072845824 := by
  have h0 := h 0 (by decide); have h1 := h 1 (by decide); have h2 := h 2 (by decide); have h3 := h 3 (by decide); have h4 := h 4 (by decide)
  unfold V; omega
theorem V_nonneg (q : Nat → Int) (h : Fit5 q) : 0 ≤ V q := by
  have h0 := h 0 (by decide); have h1 := h 1 (by decide); have h2 := h 2 (by decide); have h3 := h 3 (by decide); have h4 := h 4 (by decide)
  unfold V; omega
/-- Those from the prime on. -/
theorem V_top (q : Nat → Int) (h : Low5 q) (hv : PP ≤ V q) : 67108859 ≤ q 0 ∧ q 1 = 67108863 ∧ q 2 = 67108863 ∧ q 3 = 67108863 ∧ q 4 = 67108863 := by
  have h0 := h 0 (by decide); have h1 := h 1 (by decide); have h2 := h 2 (by decide); have h3 := h 3 (by decide); have h4 := h 4 (by decide)
  unfold V PP at hv; omega
theorem V_below (q : Nat → Int) (h : Low5 q) (hv : ¬ PP ≤ V q) : ¬ (67108859 ≤ q 0 ∧ q 1 = 67108863 ∧ q 2 = 67108863 ∧ q 3 = 67108863 ∧ q 4 = 67108863) := by
  have h0 := h 0 (by decide); have h1 := h 1 (by decide); have h2 := h 2 (by decide); have h3 := h 3 (by decide); have h4 := h 4 (by decide)
  unfold V PP at hv; omega
open Classical in
noncomputable def mu (q : Nat → Int) : Nat := (V q).toNat * 2 + if Low5 q then 0 else 1
theorem carr_low (q : Nat → Int) (h : Fit5 q) (he : ∀ i, i < 5 → carr q i = q i) : Low5 q := by
  obtain ⟨c, hc, hV, hl⟩ := carr_V q h
  have : V (carr q) = V q := by unfold V; rw [he 0 (by decide), he 1 (by decide), he 2 (by decide), he 3 (by decide), he 4 (by decide)]
  have c0 : c = 0 := by omega
  intro i hi
  have := hl c0 i hi
  rw [he i hi] at this
  exact ⟨(h i hi).1, this⟩
theorem mu_carr (q : Nat → Int) (h : Fit5 q) (he : ¬ ∀ i, i < 5 → carr q i = q i) : mu (carr q) < mu q := by
  obtain ⟨c, hc, hV, hl⟩ := carr_V q h
  have n1 := V_nonneg q h
  have n2 := V_nonneg _ (carr_fit q h)
  unfold mu
  by_cases c0 : c = 0
  · have l1 : Low5 (carr q) := fun i hi => ⟨(carr_fit q h i hi).1, hl c0 i hi⟩
    have l2 : ¬ Low5 q := by
      intro hq
      refine he fun i hi => ?_
      have a := prts_V _ l1 i hi
      have b := prts_V _ hq i hi
      rw [hV, c0] at a
      simp only [Int.zero_mul, Int.sub_zero] at a
      rw [← a, b]
    rw [if_pos l1, if_neg l2, hV, c0]
    omega
  · have : V (carr q) < V q := by rw [hV]; omega
    split <;> split <;> omega
theorem carr_mod (q : Nat → Int) (h : Fit5 q) : V (carr q) % PP = V q % PP := by
  obtain ⟨c, hc, hV, hl⟩ := carr_V q h
  rw [hV]
  show (V q - c * PP) % PP = _
  exact Int.sub_mul_emod_self_right _ _ _
theorem top_list (q : Nat → Int) (hl : Low5 q) (t0 : 67108859 ≤ q 0) (t1 : q 1 = 67108863) (t2 : q 2 = 67108863) (t3 : q 3 = 67108863) (t4 : q 4 = 67108863) :
    [Value.int .u32 (IntKind.u32.wrap (q 0 - 67108859)), .int .u32 0, .int .u32 0, .int .u32 0, .int .u32 0] = ar32 5 (prts (V q % PP)) := by
  have h0 := hl 0 (by decide)
  have e : V q % PP = q 0 - 67108859 := by unfold V PP; rw [t1, t2, t3, t4]; omega
  rw [e, wrap_u32]
  show _ = [Value.int .u32 (prts (q 0 - 67108859) 0), .int .u32 (prts (q 0 - 67108859) 1), .int .u32 (prts (q 0 - 67108859) 2), .int .u32 (prts (q 0 - 67108859) 3), .int .u32 (prts (q 0 - 67108859) 4)]
  have e0 : prts (q 0 - 67108859) 0 = (q 0 - 67108859) % 4294967296 := by show _ / (1 : Int) % _ = _; omega
  have e1 : prts (q 0 - 67108859) 1 = 0 := by show _ / (67108864 : Int) % _ = _; omega
  have e2 : prts (q 0 - 67108859) 2 = 0 := by show _ / (4503599627370496 : Int) % _ = _; omega
  have e3 : prts (q 0 - 67108859) 3 = 0 := by show _ / (302231454903657293676544 : Int) % _ = _; omega
  have e4 : prts (q 0 - 67108859) 4 = 0 := by show _ / (20282409603651670423947251286016 : Int) % _ = _; omega
  rw [e0, e1, e2, e3, e4]
theorem below_list (q : Nat → Int) (hl : Low5 q) (hb : ¬ PP ≤ V q) : ar32 5 q = ar32 5 (prts (V q % PP)) :=
  ar32_congr fun i hi => by rw [Int.emod_eq_of_lt (V_range q hl).1 (by omega), prts_V q hl i hi]
set_option linter.unusedSimpArgs false
theorem formed_ok (p : Nat → Int) (hp : Fit5 p) : CallOK Try.prog (fun _ => none) 26 [.ex (.agg (ar64 5 p).toArray)] [] { val := .ex (.agg (ar32 5 (prts (V p % PP))).toArray) } := by
  refine CallOK.from0 hmix Try.f26 0 fn26 (by kernel_rfl) (by kernel_rfl) (fun w ρ h1 h2 => ?_)
  refine AG.rk 5 [1, 2] [0, 4] 5 (todo' := [.code (sub (codeOf Try.f26) [1, 0, 1]), .inScope (sub (codeOf Try.f26) [1, 0])]) (st' := ⟨mkT 37 [(1, .p 0 0), (2, .p 4 0)], [(0, .own [.int .u64 (p 0), .int .u64 (p 1), .int .u64 (p 2), .int .u64 (p 3), .int .u64 (p 4)]), (4, .own [.int .u32 0, .int .u32 0, .int .u32 0, .int .u32 0, .int .u32 0])], 5⟩) (by kernel_rfl) (by kernel_rfl) ?_
  refine AG.ind (α := {q : Nat → Int // Fit5 q ∧ V q % PP = V p % PP}) (fun q => mu q.1) (fun q => ⟨mkT 37 [(1, .p 0 0), (2, .p 4 0)], [(0, .own [.int .u64 (q.1 0), .int .u64 (q.1 1), .int .u64 (q.1 2), .int .u64 (q.1 3), .int .u64 (q.1 4)]), (4, .own [.int .u32 0, .int .u32 0, .int .u32 0, .int .u32 0, .int .u32 0])], 5⟩) ?_ ⟨p, hp, rfl⟩
  rintro ⟨q, hq, hV⟩ ih
  simp only at ih ⊢
  refine AG.rk 1 [1, 2] [0, 4] 5 (todo' := [.code (sub (codeOf Try.f26) [1, 0, 1, 0]), .code (sub (codeOf Try.f26) [1, 0, 1, 1]), .inScope (sub (codeOf Try.f26) [1, 0])]) (st' := ⟨mkT 37 [(1, .p 0 0), (2, .p 4 0)], [(0, .own [.int .u64 (q 0), .int .u64 (q 1), .int .u64 (q 2), .int .u64 (q 3), .int .u64 (q 4)]), (4, .own [.int .u32 0, .int .u32 0, .int .u32 0, .int .u32 0, .int .u32 0])], 5⟩) (by kernel_rfl) (by kernel_rfl) ?_
  refine AG.gk [] [(1, { val := .ex (.agg (List.toArray (ar64 5 (carr q)))) })] [1, 2, 3] [0, 4, 13] 14 (st' := ⟨mkT 37 [(1, .p 0 0), (2, .p 4 0), (3, .p 13 0)], [(0, .own [.int .u64 (q 0), .int .u64 (q 1), .int .u64 (q 2), .int .u64 (q 3), .int .u64 (q 4)]), (4, .own [.int .u32 0, .int .u32 0, .int .u32 0, .int .u32 0, .int .u32 0]), (13, .own [.int .u64 (carr q 0), .int .u64 (carr q 1), .int .u64 (carr q 2), .int .u64 (carr q 3), .int .u64 (carr q 4)])], 14⟩) (obs := [Ob.call (fun g => List.lookup g []) 33 [.ex (.agg { toList := [.int .u64 (q 0), .int .u64 (q 1), .int .u64 (q 2), .int .u64 (q 3), .int .u64 (q 4)] })] [] { val := .ex (.agg (List.toArray (ar64 5 (carr q)))) }]) (by kernel_rfl) (by kernel_rfl) ⟨((Go.Proofs.Ytlghhplheddbfaa.Ab.carried_ok (q)).gl), trivial⟩ ?_
  refine AG.rk 3 [1, 2, 3, 10] [0, 4, 13] 14 (todo' := [.code (sub (codeOf Try.f26) [1, 0, 1, 1, 0, 1]), .code (sub (codeOf Try.f26) [1, 0, 1, 1, 1]), .inScope (sub (codeOf Try.f26) [1, 0])]) (st' := ⟨mkT 37 [(1, .p 0 0), (2, .p 4 0), (3, .p 13 0), (10, .ex (.bool !eqL [carr q 0, carr q 1, carr q 2, carr q 3, carr q 4] [q 0, q 1, q 2, q 3, q 4]))], [(0, .own [.int .u64 (q 0), .int .u64 (q 1), .int .u64 (q 2), .int .u64 (q 3), .int .u64 (q 4)]), (4, .own [.int .u32 0, .int .u32 0, .int .u32 0, .int .u32 0, .int .u32 0]), (13, .own [.int .u64 (carr q 0), .int .u64 (carr q 1), .int .u64 (carr q 2), .int .u64 (carr q 3), .int .u64 (carr q 4)])], 14⟩) (by kernel_rfl) (by kernel_rfl) ?_
  refine AG.cond (b := !eqL [carr q 0, carr q 1, carr q 2, carr q 3, carr q 4] [q 0, q 1, q 2, q 3, q 4]) (by kernel_rfl) (fun hc => ?_) (fun hc => ?_)
  · refine AG.rk 5 [1, 2] [0, 4] 5 (todo' := [.code (sub (codeOf Try.f26) [1, 0, 1]), .inScope (sub (codeOf Try.f26) [1, 0])]) (st' := ⟨mkT 37 [(1, .p 0 0), (2, .p 4 0)], [(0, .own [.int .u64 (carr q 0), .int .u64 (carr q 1), .int .u64 (carr q 2), .int .u64 (carr q 3), .int .u64 (carr q 4)]), (4, .own [.int .u32 0, .int .u32 0, .int .u32 0, .int .u32 0, .int .u32 0])], 5⟩) (by kernel_rfl) (by kernel_rfl) ?_
    refine ih ⟨carr q, carr_fit q hq, (carr_mod q hq).trans hV⟩ (mu_carr q hq fun he => ?_)
    rw [he 0 (by decide), he 1 (by decide), he 2 (by decide), he 3 (by decide), he 4 (by decide), eqL_iff.2 rfl] at hc
    cases hc
  · rw [← hV]
    have hc' := eqL_iff.1 (show eqL _ _ = true by simpa using hc)
    clear hc
    simp only [List.cons.injEq, and_true] at hc'
    obtain ⟨e0, e1, e2, e3, e4⟩ := hc'
    have hl : Low5 q := carr_low q hq (fun i hi => by
      match i, hi with
      | 0, _ => exact e0
      | 1, _ => exact e1
      | 2, _ => exact e2
      | 3, _ => exact e3
      | 4, _ => exact e4)
    clear e0 e1 e2 e3 e4 ih hV hq
    have hw : ∀ i, i < 5 → IntKind.u32.wrap (q i) = q i := fun i hi => by have := hl i hi; rw [wrap_u32]; omega
    have w0 := hw 0 (by decide); have w1 := hw 1 (by decide); have w2 := hw 2 (by decide); have w3 := hw 3 (by decide); have w4 := hw 4 (by decide)
    have hr := V_range q hl
    by_cases hb : PP ≤ V q
    · obtain ⟨t0, t1, t2, t3, t4⟩ := V_top q hl hb
      have g1 : eqL [q 0, q 1, q 2, q 3, q 4] [q 0, 67108863, 67108863, 67108863, 67108863] = true := eqL_iff.2 (by rw [t1, t2, t3, t4])
      have g2 : decide (q 0 ≥ 67108859) = true := by simpa using t0
      refine AG.rk 17 [1, 2, 4, 5, 12] [0, 4, 14] 15 (todo' := [.code (sub (codeOf Try.f26) [1, 0, 1, 1, 1, 1, 0, 1, 0, 0, 1, 1, 0, 0, 1]), .inBlock 1, .code (sub (codeOf Try.f26) [1, 0, 1, 1, 1, 1, 0, 1, 0, 0, 1, 1, 1]), .inLoop (sub (codeOf Try.f26) [1, 0, 1, 1, 1, 1, 0, 1, 0, 0]), .inBlock 0, .code (sub (codeOf Try.f26) [1, 0, 1, 1, 1, 1, 1]), .inScope (sub (codeOf Try.f26) [1, 0])]) (st' := ⟨mkT 37 [(1, .p 0 0), (2, .p 4 0), (4, .p 14 0), (5, .ex (.int .i64 0)), (12, .ex (.int .i64 0))], [(0, .own [.int .u64 (q 0), .int .u64 (q 1), .int .u64 (q 2), .int .u64 (q 3), .int .u64 (q 4)]), (4, .own [.int .u32 0, .int .u32 0, .int .u32 0, .int .u32 0, .int .u32 0]), (14, .own [.int .u32 0, .int .u32 0, .int .u32 0, .int .u32 0, .int .u32 0])], 15⟩) (by kernel_rfl) (by kernel_rfl) ?_
      refine AG.gk [] [(4, { val := .ex (.int .u32 (q 0)) })] [1, 2, 4, 12] [0, 4, 14] 15 (st' := ⟨mkT 37 [(1, .p 0 0), (2, .p 4 0), (4, .p 14 0), (12, .ex (.int .i64 0))], [(0, .own [.int .u64 (q 0), .int .u64 (q 1), .int .u64 (q 2), .int .u64 (q 3), .int .u64 (q 4)]), (4, .own [.int .u32 0, .int .u32 0, .int .u32 0, .int .u32 0, .int .u32 0]), (14, .own [.int .u32 (q 0), .int .u32 0, .int .u32 0, .int .u32 0, .int .u32 0])], 15⟩) (obs := [Ob.eq (.ex (.int .u32 (IntKind.wrap .u32 (q 0)))) (.ex (.int .u32 (q 0)))]) (by kernel_rfl) (by kernel_rfl) ⟨(by first | (simp only [Ob.holds, w0, w1, w2, w3, w4, g1, g2]; done) | (simp only [Ob.holds, w0, w1, w2, w3, w4, g1, g2]; rfl)), trivial⟩ ?_
      refine AG.rk 12 [1, 2, 4, 5, 12] [0, 4, 14] 15 (todo' := [.code (sub (codeOf Try.f26) [1, 0, 1, 1, 1, 1, 0, 1, 0, 0, 1, 1, 0, 0, 1]), .inBlock 1, .code (sub (codeOf Try.f26) [1, 0, 1, 1, 1, 1, 0, 1, 0, 0, 1, 1, 1]), .inLoop (sub (codeOf Try.f26) [1, 0, 1, 1, 1, 1, 0, 1, 0, 0]), .inBlock 0, .code (sub (codeOf Try.f26) [1, 0, 1, 1, 1, 1, 1]), .inScope (sub (codeOf Try.f26) [1, 0])]) (st' := ⟨mkT 37 [(1, .p 0 0), (2, .p 4 0), (4, .p 14 0), (5, .ex (.int .i64 1)), (12, .ex (.int .i64 1))], [(0, .own [.int .u64 (q 0), .int .u64 (q 1), .int .u64 (q 2), .int .u64 (q 3), .int .u64 (q 4)]), (4, .own [.int .u32 0, .int .u32 0, .int .u32 0, .int .u32 0, .int .u32 0]), (14, .own [.int .u32 (q 0), .int .u32 0, .int .u32 0, .int .u32 0, .int .u32 0])], 15⟩) (by kernel_rfl) (by kernel_rfl) ?_
      refine AG.gk [] [(4, { val := .ex (.int .u32 (q 1)) })] [1, 2, 4, 12] [0, 4, 14] 15 (st' := ⟨mkT 37 [(1, .p 0 0), (2, .p 4 0), (4, .p 14 0), (12, .ex (.int .i64 1))], [(0, .own [.int .u64 (q 0), .int .u64 (q 1), .int .u64 (q 2), .int .u64 (q 3), .int .u64 (q 4)]), (4, .own [.int .u32 0, .int .u32 0, .int .u32 0, .int .u32 0, .int .u32 0]), (14, .own [.int .u32 (q 0), .int .u32 (q 1), .int .u32 0, .int .u32 0, .int .u32 0])], 15⟩) (obs := [Ob.eq (.ex (.int .u32 (IntKind.wrap .u32 (q 1)))) (.ex (.int .u32 (q 1)))]) (by kernel_rfl) (by kernel_rfl) ⟨(by first | (simp only [Ob.holds, w0, w1, w2, w3, w4, g1, g2]; done) | (simp only [Ob.holds, w0, w1, w2, w3, w4, g1, g2]; rfl)), trivial⟩ ?_
      refine AG.rk 12 [1, 2, 4, 5, 12] [0, 4, 14] 15 (todo' := [.code (sub (codeOf Try.f26) [1, 0, 1, 1, 1, 1, 0, 1, 0, 0, 1, 1, 0, 0, 1]), .inBlock 1, .code (sub (codeOf Try.f26) [1, 0, 1, 1, 1, 1, 0, 1, 0, 0, 1, 1, 1]), .inLoop (sub (codeOf Try.f26) [1, 0, 1, 1, 1, 1, 0, 1, 0, 0]), .inBlock 0, .code (sub (codeOf Try.f26) [1, 0, 1, 1, 1, 1, 1]), .inScope (sub (codeOf Try.f26) [1, 0])]) (st' := ⟨mkT 37 [(1, .p 0 0), (2, .p 4 0), (4, .p 14 0), (5, .ex (.int .i64 2)), (12, .ex (.int .i64 2))], [(0, .own [.int .u64 (q 0), .int .u64 (q 1), .int .u64 (q 2), .int .u64 (q 3), .int .u64 (q 4)]), (4, .own [.int .u32 0, .int .u32 0, .int .u32 0, .int .u32 0, .int .u32 0]), (14, .own [.int .u32 (q 0), .int .u32 (q 1), .int .u32 0, .int .u32 0, .int .u32 0])], 15⟩) (by kernel_rfl) (by kernel_rfl) ?_
      refine AG.gk [] [(4, { val := .ex (.int .u32 (q 2)) })] [1, 2, 4, 12] [0, 4, 14] 15 (st' := ⟨mkT 37 [(1, .p 0 0), (2, .p 4 0), (4, .p 14 0), (12, .ex (.int .i64 2))], [(0, .own [.int .u64 (q 0), .int .u64 (q 1), .int .u64 (q 2), .int .u64 (q 3), .int .u64 (q 4)]), (4, .own [.int .u32 0, .int .u32 0, .int .u32 0, .int .u32 0, .int .u32 0]), (14, .own [.int .u32 (q 0), .int .u32 (q 1), .int .u32 (q 2), .int .u32 0, .int .u32 0])], 15⟩) (obs := [Ob.eq (.ex (.int .u32 (IntKind.wrap .u32 (q 2)))) (.ex (.int .u32 (q 2)))]) (by kernel_rfl) (by kernel_rfl) ⟨(by first | (simp only [Ob.holds, w0, w1, w2, w3, w4, g1, g2]; done) | (simp only [Ob.holds, w0, w1, w2, w3, w4, g1, g2]; rfl)), trivial⟩ ?_
      refine AG.rk 12 [1, 2, 4, 5, 12] [0, 4, 14] 15 (todo' := [.code (sub (codeOf Try.f26) [1, 0, 1, 1, 1, 1, 0, 1, 0, 0, 1, 1, 0, 0, 1]), .inBlock 1, .code (sub (codeOf Try.f26) [1, 0, 1, 1, 1, 1, 0, 1, 0, 0, 1, 1, 1]), .inLoop (sub (codeOf Try.f26) [1, 0, 1, 1, 1, 1, 0, 1, 0, 0]), .inBlock 0, .code (sub (codeOf Try.f26) [1, 0, 1, 1, 1, 1, 1]), .inScope (sub (codeOf Try.f26) [1, 0])]) (st' := ⟨mkT 37 [(1, .p 0 0), (2, .p 4 0), (4, .p 14 0), (5, .ex (.int .i64 3)), (12, .ex (.int .i64 3))], [(0, .own [.int .u64 (q 0), .int .u64 (q 1), .int .u64 (q 2), .int .u64 (q 3), .int .u64 (q 4)]), (4, .own [.int .u32 0, .int .u32 0, .int .u32 0, .int .u32 0, .int .u32 0]), (14, .own [.int .u32 (q 0), .int .u32 (q 1), .int .u32 (q 2), .int .u32 0, .int .u32 0])], 15⟩) (by kernel_rfl) (by kernel_rfl) ?_
      refine AG.gk [] [(4, { val := .ex (.int .u32 (q 3)) })] [1, 2, 4, 12] [0, 4, 14] 15 (st' := ⟨mkT 37 [(1, .p 0 0), (2, .p 4 0), (4, .p 14 0), (12, .ex (.int .i64 3))], [(0, .own [.int .u64 (q 0), .int .u64 (q 1), .int .u64 (q 2), .int .u64 (q 3), .int .u64 (q 4)]), (4, .own [.int .u32 0, .int .u32 0, .int .u32 0, .int .u32 0, .int .u32 0]), (14, .own [.int .u32 (q 0), .int .u32 (q 1), .int .u32 (q 2), .int .u32 (q 3), .int .u32 0])], 15⟩) (obs := [Ob.eq (.ex (.int .u32 (IntKind.wrap .u32 (q 3)))) (.ex (.int .u32 (q 3)))]) (by kernel_rfl) (by kernel_rfl) ⟨(by first | (simp only [Ob.holds, w0, w1, w2, w3, w4, g1, g2]; done) | (simp only [Ob.holds, w0, w1, w2, w3, w4, g1, g2]; rfl)), trivial⟩ ?_
      refine AG.rk 12 [1, 2, 4, 5, 12] [0, 4, 14] 15 (todo' := [.code (sub (codeOf Try.f26) [1, 0, 1, 1, 1, 1, 0, 1, 0, 0, 1, 1, 0, 0, 1]), .inBlock 1, .code (sub (codeOf Try.f26) [1, 0, 1, 1, 1, 1, 0, 1, 0, 0, 1, 1, 1]), .inLoop (sub (codeOf Try.f26) [1, 0, 1, 1, 1, 1, 0, 1, 0, 0]), .inBlock 0, .code (sub (codeOf Try.f26) [1, 0, 1, 1, 1, 1, 1]), .inScope (sub (codeOf Try.f26) [1, 0])]) (st' := ⟨mkT 37 [(1, .p 0 0), (2, .p 4 0), (4, .p 14 0), (5, .ex (.int .i64 4)), (12, .ex (.int .i64 4))], [(0, .own [.int .u64 (q 0), .int .u64 (q 1), .int .u64 (q 2), .int .u64 (q 3), .int .u64 (q 4)]), (4, .own [.int .u32 0, .int .u32 0, .int .u32 0, .int .u32 0, .int .u32 0]), (14, .own [.int .u32 (q 0), .int .u32 (q 1), .int .u32 (q 2), .int .u32 (q 3), .int .u32 0])], 15⟩) (by kernel_rfl) (by kernel_rfl) ?_
      refine AG.gk [] [(4, { val := .ex (.int .u32 (q 4)) })] [1, 2, 4, 12] [0, 4, 14] 15 (st' := ⟨mkT 37 [(1, .p 0 0), (2, .p 4 0), (4, .p 14 0), (12, .ex (.int .i64 4))], [(0, .own [.int .u64 (q 0), .int .u64 (q 1), .int .u64 (q 2), .int .u64 (q 3), .int .u64 (q 4)]), (4, .own [.int .u32 0, .int .u32 0, .int .u32 0, .int .u32 0, .int .u32 0]), (14, .own [.int .u32 (q 0), .int .u32 (q 1), .int .u32 (q 2), .int .u32 (q 3), .int .u32 (q 4)])], 15⟩) (obs := [Ob.eq (.ex (.int .u32 (IntKind.wrap .u32 (q 4)))) (.ex (.int .u32 (q 4)))]) (by kernel_rfl) (by kernel_rfl) ⟨(by first | (simp only [Ob.holds, w0, w1, w2, w3, w4, g1, g2]; done) | (simp only [Ob.holds, w0, w1, w2, w3, w4, g1, g2]; rfl)), trivial⟩ ?_
      refine AG.rk 10 [2, 4] [4, 14] 15 (todo' := [.code (sub (codeOf Try.f26) [1, 0, 1, 1, 1, 1, 1, 0, 0]), .code (sub (codeOf Try.f26) [1, 0, 1, 1, 1, 1, 1, 0, 1]), .code (sub (codeOf Try.f26) [1, 0, 1, 1, 1, 1, 1, 1]), .inScope (sub (codeOf Try.f26) [1, 0])]) (st' := ⟨mkT 37 [(2, .p 4 0), (4, .p 14 0)], [(4, .own [.int .u32 0, .int .u32 0, .int .u32 0, .int .u32 0, .int .u32 0]), (14, .own [.int .u32 (q 0), .int .u32 (q 1), .int .u32 (q 2), .int .u32 (q 3), .int .u32 (q 4)])], 15⟩) (by kernel_rfl) (by kernel_rfl) ?_
      refine AG.gk [] [(4, { val := .ex (.bool true) }), (8, { val := .ex (.bool true) })] [2, 4, 31] [4, 14] 15 (st' := ⟨mkT 37 [(2, .p 4 0), (4, .p 14 0), (31, .ex (.bool true))], [(4, .own [.int .u32 0, .int .u32 0, .int .u32 0, .int .u32 0, .int .u32 0]), (14, .own [.int .u32 (q 0), .int .u32 (q 1), .int .u32 (q 2), .int .u32 (q 3), .int .u32 (q 4)])], 15⟩) (obs := [Ob.eq (.ex (.bool (eqL [q 0, q 1, q 2, q 3, q 4] [q 0, 67108863, 67108863, 67108863, 67108863]))) (.ex (.bool true)), Ob.eq (.ex (.bool (decide (q 0 ≥ 67108859)))) (.ex (.bool true))]) (by kernel_rfl) (by kernel_rfl) ⟨(by first | (simp only [Ob.holds, w0, w1, w2, w3, w4, g1, g2]; done) | (simp only [Ob.holds, w0, w1, w2, w3, w4, g1, g2]; rfl)), (by first | (simp only [Ob.holds, w0, w1, w2, w3, w4, g1, g2]; done) | (simp only [Ob.holds, w0, w1, w2, w3, w4, g1, g2]; rfl)), trivial⟩ ?_
      refine AG.rk 3 [2] [4] 5 (todo' := [.code (sub (codeOf Try.f26) [1, 0, 1, 1, 1, 1, 1, 0, 1, 0, 1]), .code (sub (codeOf Try.f26) [1, 0, 1, 1, 1, 1, 1, 1]), .inScope (sub (codeOf Try.f26) [1, 0])]) (st' := ⟨mkT 37 [(2, .p 4 0)], [(4, .own [.int .u32 (IntKind.wrap .u32 (q 0 - 67108859)), .int .u32 0, .int .u32 0, .int .u32 0, .int .u32 0])], 5⟩) (by kernel_rfl) (by kernel_rfl) ?_
      refine AG.fin ([.ex (.agg { toList := [.int .u32 (IntKind.wrap .u32 (q 0 - 67108859)), .int .u32 0, .int .u32 0, .int .u32 0, .int .u32 0] })]) Go.Proofs.Try.f26 fn26 (.inr ⟨_, rfl⟩) (obs := [Ob.le 5 5]) (by kernel_rfl) ⟨(Ob.holds_of_dec (by kernel_rfl)), trivial⟩ ?_ trivial (by kernel_rfl)
      exact congrArg (fun l => AV.ex (.agg (List.toArray l))) (top_list q hl t0 t1 t2 t3 t4)
    · have g0 := V_below q hl hb
      by_cases hd : q 1 = 67108863 ∧ q 2 = 67108863 ∧ q 3 = 67108863 ∧ q 4 = 67108863
      · have g1 : eqL [q 0, q 1, q 2, q 3, q 4] [q 0, 67108863, 67108863, 67108863, 67108863] = true := eqL_iff.2 (by rw [hd.1, hd.2.1, hd.2.2.1, hd.2.2.2])
        have g2 : decide (q 0 ≥ 67108859) = false := by simp; omega
        refine AG.rk 17 [1, 2, 4, 5, 12] [0, 4, 14] 15 (todo' := [.code (sub (codeOf Try.f26) [1, 0, 1, 1, 1, 1, 0, 1, 0, 0, 1, 1, 0, 0, 1]), .inBlock 1, .code (sub (codeOf Try.f26) [1, 0, 1, 1, 1, 1, 0, 1, 0, 0, 1, 1, 1]), .inLoop (sub (codeOf Try.f26) [1, 0, 1, 1, 1, 1, 0, 1, 0, 0]), .inBlock 0, .code (sub (codeOf Try.f26) [1, 0, 1, 1, 1, 1, 1]), .inScope (sub (codeOf Try.f26) [1, 0])]) (st' := ⟨mkT 37 [(1, .p 0 0), (2, .p 4 0), (4, .p 14 0), (5, .ex (.int .i64 0)), (12, .ex (.int .i64 0))], [(0, .own [.int .u64 (q 0), .int .u64 (q 1), .int .u64 (q 2), .int .u64 (q 3), .int .u64 (q 4)]), (4, .own [.int .u32 0, .int .u32 0, .int .u32 0, .int .u32 0, .int .u32 0]), (14, .own [.int .u32 0, .int .u32 0, .int .u32 0, .int .u32 0, .int .u32 0])], 15⟩) (by kernel_rfl) (by kernel_rfl) ?_
        refine AG.gk [] [(4, { val := .ex (.int .u32 (q 0)) })] [1, 2, 4, 12] [0, 4, 14] 15 (st' := ⟨mkT 37 [(1, .p 0 0), (2, .p 4 0), (4, .p 14 0), (12, .ex (.int .i64 0))], [(0, .own [.int .u64 (q 0), .int .u64 (q 1), .int .u64 (q 2), .int .u64 (q 3), .int .u64 (q 4)]), (4, .own [.int .u32 0, .int .u32 0, .int .u32 0, .int .u32 0, .int .u32 0]), (14, .own [.int .u32 (q 0), .int .u32 0, .int .u32 0, .int .u32 0, .int .u32 0])], 15⟩) (obs := [Ob.eq (.ex (.int .u32 (IntKind.wrap .u32 (q 0)))) (.ex (.int .u32 (q 0)))]) (by kernel_rfl) (by kernel_rfl) ⟨(by first | (simp only [Ob.holds, w0, w1, w2, w3, w4, g1, g2]; done) | (simp only [Ob.holds, w0, w1, w2, w3, w4, g1, g2]; rfl)), trivial⟩ ?_
        refine AG.rk 12 [1, 2, 4, 5, 12] [0, 4, 14] 15 (todo' := [.code (sub (codeOf Try.f26) [1, 0, 1, 1, 1, 1, 0, 1, 0, 0, 1, 1, 0, 0, 1]), .inBlock 1, .code (sub (codeOf Try.f26) [1, 0, 1, 1, 1, 1, 0, 1, 0, 0, 1, 1, 1]), .inLoop (sub (codeOf Try.f26) [1, 0, 1, 1, 1, 1, 0, 1, 0, 0]), .inBlock 0, .code (sub (codeOf Try.f26) [1, 0, 1, 1, 1, 1, 1]), .inScope (sub (codeOf Try.f26) [1, 0])]) (st' := ⟨mkT 37 [(1, .p 0 0), (2, .p 4 0), (4, .p 14 0), (5, .ex (.int .i64 1)), (12, .ex (.int .i64 1))], [(0, .own [.int .u64 (q 0), .int .u64 (q 1), .int .u64 (q 2), .int .u64 (q 3), .int .u64 (q 4)]), (4, .own [.int .u32 0, .int .u32 0, .int .u32 0, .int .u32 0, .int .u32 0]), (14, .own [.int .u32 (q 0), .int .u32 0, .int .u32 0, .int .u32 0, .int .u32 0])], 15⟩) (by kernel_rfl) (by kernel_rfl) ?_
        refine AG.gk [] [(4, { val := .ex (.int .u32 (q 1)) })] [1, 2, 4, 12] [0, 4, 14] 15 (st' := ⟨mkT 37 [(1, .p 0 0), (2, .p 4 0), (4, .p 14 0), (12, .ex (.int .i64 1))], [(0, .own [.int .u64 (q 0), .int .u64 (q 1), .int .u64 (q 2), .int .u64 (q 3), .int .u64 (q 4)]), (4, .own [.int .u32 0, .int .u32 0, .int .u32 0, .int .u32 0, .int .u32 0]), (14, .own [.int .u32 (q 0), .int .u32 (q 1), .int .u32 0, .int .u32 0, .int .u32 0])], 15⟩) (obs := [Ob.eq (.ex (.int .u32 (IntKind.wrap .u32 (q 1)))) (.ex (.int .u32 (q 1)))]) (by kernel_rfl) (by kernel_rfl) ⟨(by first | (simp only [Ob.holds, w0, w1, w2, w3, w4, g1, g2]; done) | (simp only [Ob.holds, w0, w1, w2, w3, w4, g1, g2]; rfl)), trivial⟩ ?_
        refine AG.rk 12 [1, 2, 4, 5, 12] [0, 4, 14] 15 (todo' := [.code (sub (codeOf Try.f26) [1, 0, 1, 1, 1, 1, 0, 1, 0, 0, 1, 1, 0, 0, 1]), .inBlock 1, .code (sub (codeOf Try.f26) [1, 0, 1, 1, 1, 1, 0, 1, 0, 0, 1, 1, 1]), .inLoop (sub (codeOf Try.f26) [1, 0, 1, 1, 1, 1, 0, 1, 0, 0]), .inBlock 0, .code (sub (codeOf Try.f26) [1, 0, 1, 1, 1, 1, 1]), .inScope (sub (codeOf Try.f26) [1, 0])]) (st' := ⟨mkT 37 [(1, .p 0 0), (2, .p 4 0), (4, .p 14 0), (5, .ex (.int .i64 2)), (12, .ex (.int .i64 2))], [(0, .own [.int .u64 (q 0), .int .u64 (q 1), .int .u64 (q 2), .int .u64 (q 3), .int .u64 (q 4)]), (4, .own [.int .u32 0, .int .u32 0, .int .u32 0, .int .u32 0, .int .u32 0]), (14, .own [.int .u32 (q 0), .int .u32 (q 1), .int .u32 0, .int .u32 0, .int .u32 0])], 15⟩) (by kernel_rfl) (by kernel_rfl) ?_
        refine AG.gk [] [(4, { val := .ex (.int .u32 (q 2)) })] [1, 2, 4, 12] [0, 4, 14] 15 (st' := ⟨mkT 37 [(1, .p 0 0), (2, .p 4 0), (4, .p 14 0), (12, .ex (.int .i64 2))], [(0, .own [.int .u64 (q 0), .int .u64 (q 1), .int .u64 (q 2), .int .u64 (q 3), .int .u64 (q 4)]), (4, .own [.int .u32 0, .int .u32 0, .int .u32 0, .int .u32 0, .int .u32 0]), (14, .own [.int .u32 (q 0), .int .u32 (q 1), .int .u32 (q 2), .int .u32 0, .int .u32 0])], 15⟩) (obs := [Ob.eq (.ex (.int .u32 (IntKind.wrap .u32 (q 2)))) (.ex (.int .u32 (q 2)))]) (by kernel_rfl) (by kernel_rfl) ⟨(by first | (simp only [Ob.holds, w0, w1, w2, w3, w4, g1, g2]; done) | (simp only [Ob.holds, w0, w1, w2, w3, w4, g1, g2]; rfl)), trivial⟩ ?_
        refine AG.rk 12 [1, 2, 4, 5, 12] [0, 4, 14] 15 (todo' := [.code (sub (codeOf Try.f26) [1, 0, 1, 1, 1, 1, 0, 1, 0, 0, 1, 1, 0, 0, 1]), .inBlock 1, .code (sub (codeOf Try.f26) [1, 0, 1, 1, 1, 1, 0, 1, 0, 0, 1, 1, 1]), .inLoop (sub (codeOf Try.f26) [1, 0, 1, 1, 1, 1, 0, 1, 0, 0]), .inBlock 0, .code (sub (codeOf Try.f26) [1, 0, 1, 1, 1, 1, 1]), .inScope (sub (codeOf Try.f26) [1, 0])]) (st' := ⟨mkT 37 [(1, .p 0 0), (2, .p 4 0), (4, .p 14 0), (5, .ex (.int .i64 3)), (12, .ex (.int .i64 3))], [(0, .own [.int .u64 (q 0), .int .u64 (q 1), .int .u64 (q 2), .int .u64 (q 3), .int .u64 (q 4)]), (4, .own [.int .u32 0, .int .u32 0, .int .u32 0, .int .u32 0, .int .u32 0]), (14, .own [.int .u32 (q 0), .int .u32 (q 1), .int .u32 (q 2), .int .u32 0, .int .u32 0])], 15⟩) (by kernel_rfl) (by kernel_rfl) ?_
        refine AG.gk [] [(4, { val := .ex (.int .u32 (q 3)) })] [1, 2, 4, 12] [0, 4, 14] 15 (st' := ⟨mkT 37 [(1, .p 0 0), (2, .p 4 0), (4, .p 14 0), (12, .ex (.int .i64 3))], [(0, .own [.int .u64 (q 0), .int .u64 (q 1), .int .u64 (q 2), .int .u64 (q 3), .int .u64 (q 4)]), (4, .own [.int .u32 0, .int .u32 0, .int .u32 0, .int .u32 0, .int .u32 0]), (14, .own [.int .u32 (q 0), .int .u32 (q 1), .int .u32 (q 2), .int .u32 (q 3), .int .u32 0])], 15⟩) (obs := [Ob.eq (.ex (.int .u32 (IntKind.wrap .u32 (q 3)))) (.ex (.int .u32 (q 3)))]) (by kernel_rfl) (by kernel_rfl) ⟨(by first | (simp only [Ob.holds, w0, w1, w2, w3, w4, g1, g2]; done) | (simp only [Ob.holds, w0, w1, w2, w3, w4, g1, g2]; rfl)), trivial⟩ ?_
        refine AG.rk 12 [1, 2, 4, 5, 12] [0, 4, 14] 15 (todo' := [.code (sub (codeOf Try.f26) [1, 0, 1, 1, 1, 1, 0, 1, 0, 0, 1, 1, 0, 0, 1]), .inBlock 1, .code (sub (codeOf Try.f26) [1, 0, 1, 1, 1, 1, 0, 1, 0, 0, 1, 1, 1]), .inLoop (sub (codeOf Try.f26) [1, 0, 1, 1, 1, 1, 0, 1, 0, 0]), .inBlock 0, .code (sub (codeOf Try.f26) [1, 0, 1, 1, 1, 1, 1]), .inScope (sub (codeOf Try.f26) [1, 0])]) (st' := ⟨mkT 37 [(1, .p 0 0), (2, .p 4 0), (4, .p 14 0), (5, .ex (.int .i64 4)), (12, .ex (.int .i64 4))], [(0, .own [.int .u64 (q 0), .int .u64 (q 1), .int .u64 (q 2), .int .u64 (q 3), .int .u64 (q 4)]), (4, .own [.int .u32 0, .int .u32 0, .int .u32 0, .int .u32 0, .int .u32 0]), (14, .own [.int .u32 (q 0), .int .u32 (q 1), .int .u32 (q 2), .int .u32 (q 3), .int .u32 0])], 15⟩) (by kernel_rfl) (by kernel_rfl) ?_
        refine AG.gk [] [(4, { val := .ex (.int .u32 (q 4)) })] [1, 2, 4, 12] [0, 4, 14] 15 (st' := ⟨mkT 37 [(1, .p 0 0), (2, .p 4 0), (4, .p 14 0), (12, .ex (.int .i64 4))], [(0, .own [.int .u64 (q 0), .int .u64 (q 1), .int .u64 (q 2), .int .u64 (q 3), .int .u64 (q 4)]), (4, .own [.int .u32 0, .int .u32 0, .int .u32 0, .int .u32 0, .int .u32 0]), (14, .own [.int .u32 (q 0), .int .u32 (q 1), .int .u32 (q 2), .int .u32 (q 3), .int .u32 (q 4)])], 15⟩) (obs := [Ob.eq (.ex (.int .u32 (IntKind.wrap .u32 (q 4)))) (.ex (.int .u32 (q 4)))]) (by kernel_rfl) (by kernel_rfl) ⟨(by first | (simp only [Ob.holds, w0, w1, w2, w3, w4, g1, g2]; done) | (simp only [Ob.holds, w0, w1, w2, w3, w4, g1, g2]; rfl)), trivial⟩ ?_
        refine AG.rk 10 [2, 4] [4, 14] 15 (todo' := [.code (sub (codeOf Try.f26) [1, 0, 1, 1, 1, 1, 1, 0, 0]), .code (sub (codeOf Try.f26) [1, 0, 1, 1, 1, 1, 1, 0, 1]), .code (sub (codeOf Try.f26) [1, 0, 1, 1, 1, 1, 1, 1]), .inScope (sub (codeOf Try.f26) [1, 0])]) (st' := ⟨mkT 37 [(2, .p 4 0), (4, .p 14 0)], [(4, .own [.int .u32 0, .int .u32 0, .int .u32 0, .int .u32 0, .int .u32 0]), (14, .own [.int .u32 (q 0), .int .u32 (q 1), .int .u32 (q 2), .int .u32 (q 3), .int .u32 (q 4)])], 15⟩) (by kernel_rfl) (by kernel_rfl) ?_
        refine AG.gk [] [(4, { val := .ex (.bool true) }), (8, { val := .ex (.bool false) })] [2, 4, 31] [4, 14] 15 (st' := ⟨mkT 37 [(2, .p 4 0), (4, .p 14 0), (31, .ex (.bool false))], [(4, .own [.int .u32 0, .int .u32 0, .int .u32 0, .int .u32 0, .int .u32 0]), (14, .own [.int .u32 (q 0), .int .u32 (q 1), .int .u32 (q 2), .int .u32 (q 3), .int .u32 (q 4)])], 15⟩) (obs := [Ob.eq (.ex (.bool (eqL [q 0, q 1, q 2, q 3, q 4] [q 0, 67108863, 67108863, 67108863, 67108863]))) (.ex (.bool true)), Ob.eq (.ex (.bool (decide (q 0 ≥ 67108859)))) (.ex (.bool false))]) (by kernel_rfl) (by kernel_rfl) ⟨(by first | (simp only [Ob.holds, w0, w1, w2, w3, w4, g1, g2]; done) | (simp only [Ob.holds, w0, w1, w2, w3, w4, g1, g2]; rfl)), (by first | (simp only [Ob.holds, w0, w1, w2, w3, w4, g1, g2]; done) | (simp only [Ob.holds, w0, w1, w2, w3, w4, g1, g2]; rfl)), trivial⟩ ?_
        refine AG.rk 4 [2] [4] 5 (todo' := [.code (sub (codeOf Try.f26) [1, 0, 1, 1, 1, 1, 1, 0, 1, 0, 1]), .inScope (sub (codeOf Try.f26) [1, 0])]) (st' := ⟨mkT 37 [(2, .p 4 0)], [(4, .own [.int .u32 (q 0), .int .u32 (q 1), .int .u32 (q 2), .int .u32 (q 3), .int .u32 (q 4)])], 5⟩) (by kernel_rfl) (by kernel_rfl) ?_
        refine AG.fin ([.ex (.agg { toList := [.int .u32 (q 0), .int .u32 (q 1), .int .u32 (q 2), .int .u32 (q 3), .int .u32 (q 4)] })]) Go.Proofs.Try.f26 fn26 (.inr ⟨_, rfl⟩) (obs := [Ob.le 5 5]) (by kernel_rfl) ⟨(Ob.holds_of_dec (by kernel_rfl)), trivial⟩ ?_ trivial (by kernel_rfl)
        exact congrArg (fun l => AV.ex (.agg (List.toArray l))) (below_list q hl hb)
      · have g1 : eqL [q 0, q 1, q 2, q 3, q 4] [q 0, 67108863, 67108863, 67108863, 67108863] = false := by
          rw [Bool.eq_false_iff]; intro h; have := eqL_iff.1 h; simp at this; exact hd this
        refine AG.rk 17 [1, 2, 4, 5, 12] [0, 4, 14] 15 (todo' := [.code (sub (codeOf Try.f26) [1, 0, 1, 1, 1, 1, 0, 1, 0, 0, 1, 1, 0, 0, 1]), .inBlock 1, .code (sub (codeOf Try.f26) [1, 0, 1, 1, 1, 1, 0, 1, 0, 0, 1, 1, 1]), .inLoop (sub (codeOf Try.f26) [1, 0, 1, 1, 1, 1, 0, 1, 0, 0]), .inBlock 0, .code (sub (codeOf Try.f26) [1, 0, 1, 1, 1, 1, 1]), .inScope (sub (codeOf Try.f26) [1, 0])]) (st' := ⟨mkT 37 [(1, .p 0 0), (2, .p 4 0), (4, .p 14 0), (5, .ex (.int .i64 0)), (12, .ex (.int .i64 0))], [(0, .own [.int .u64 (q 0), .int .u64 (q 1), .int .u64 (q 2), .int .u64 (q 3), .int .u64 (q 4)]), (4, .own [.int .u32 0, .int .u32 0, .int .u32 0, .int .u32 0, .int .u32 0]), (14, .own [.int .u32 0, .int .u32 0, .int .u32 0, .int .u32 0, .int .u32 0])], 15⟩) (by kernel_rfl) (by kernel_rfl) ?_
        refine AG.gk [] [(4, { val := .ex (.int .u32 (q 0)) })] [1, 2, 4, 12] [0, 4, 14] 15 (st' := ⟨mkT 37 [(1, .p 0 0), (2, .p 4 0), (4, .p 14 0), (12, .ex (.int .i64 0))], [(0, .own [.int .u64 (q 0), .int .u64 (q 1), .int .u64 (q 2), .int .u64 (q 3), .int .u64 (q 4)]), (4, .own [.int .u32 0, .int .u32 0, .int .u32 0, .int .u32 0, .int .u32 0]), (14, .own [.int .u32 (q 0), .int .u32 0, .int .u32 0, .int .u32 0, .int .u32 0])], 15⟩) (obs := [Ob.eq (.ex (.int .u32 (IntKind.wrap .u32 (q 0)))) (.ex (.int .u32 (q 0)))]) (by kernel_rfl) (by kernel_rfl) ⟨(by first | (simp only [Ob.holds, w0, w1, w2, w3, w4, g1]; done) | (simp only [Ob.holds, w0, w1, w2, w3, w4, g1]; rfl)), trivial⟩ ?_
        refine AG.rk 12 [1, 2, 4, 5, 12] [0, 4, 14] 15 (todo' := [.code (sub (codeOf Try.f26) [1, 0, 1, 1, 1, 1, 0, 1, 0, 0, 1, 1, 0, 0, 1]), .inBlock 1, .code (sub (codeOf Try.f26) [1, 0, 1, 1, 1, 1, 0, 1, 0, 0, 1, 1, 1]), .inLoop (sub (codeOf Try.f26) [1, 0, 1, 1, 1, 1, 0, 1, 0, 0]), .inBlock 0, .code (sub (codeOf Try.f26) [1, 0, 1, 1, 1, 1, 1]), .inScope (sub (codeOf Try.f26) [1, 0])]) (st' := ⟨mkT 37 [(1, .p 0 0), (2, .p 4 0), (4, .p 14 0), (5, .ex (.int .i64 1)), (12, .ex (.int .i64 1))], [(0, .own [.int .u64 (q 0), .int .u64 (q 1), .int .u64 (q 2), .int .u64 (q 3), .int .u64 (q 4)]), (4, .own [.int .u32 0, .int .u32 0, .int .u32 0, .int .u32 0, .int .u32 0]), (14, .own [.int .u32 (q 0), .int .u32 0, .int .u32 0, .int .u32 0, .int .u32 0])], 15⟩) (by kernel_rfl) (by kernel_rfl) ?_
        refine AG.gk [] [(4, { val := .ex (.int .u32 (q 1)) })] [1, 2, 4, 12] [0, 4, 14] 15 (st' := ⟨mkT 37 [(1, .p 0 0), (2, .p 4 0), (4, .p 14 0), (12, .ex (.int .i64 1))], [(0, .own [.int .u64 (q 0), .int .u64 (q 1), .int .u64 (q 2), .int .u64 (q 3), .int .u64 (q 4)]), (4, .own [.int .u32 0, .int .u32 0, .int .u32 0, .int .u32 0, .int .u32 0]), (14, .own [.int .u32 (q 0), .int .u32 (q 1), .int .u32 0, .int .u32 0, .int .u32 0])], 15⟩) (obs := [Ob.eq (.ex (.int .u32 (IntKind.wrap .u32 (q 1)))) (.ex (.int .u32 (q 1)))]) (by kernel_rfl) (by kernel_rfl) ⟨(by first | (simp only [Ob.holds, w0, w1, w2, w3, w4, g1]; done) | (simp only [Ob.holds, w0, w1, w2, w3, w4, g1]; rfl)), trivial⟩ ?_
        refine AG.rk 12 [1, 2, 4, 5, 12] [0, 4, 14] 15 (todo' := [.code (sub (codeOf Try.f26) [1, 0, 1, 1, 1, 1, 0, 1, 0, 0, 1, 1, 0, 0, 1]), .inBlock 1, .code (sub (codeOf Try.f26) [1, 0, 1, 1, 1, 1, 0, 1, 0, 0, 1, 1, 1]), .inLoop (sub (codeOf Try.f26) [1, 0, 1, 1, 1, 1, 0, 1, 0, 0]), .inBlock 0, .code (sub (codeOf Try.f26) [1, 0, 1, 1, 1, 1, 1]), .inScope (sub (codeOf Try.f26) [1, 0])]) (st' := ⟨mkT 37 [(1, .p 0 0), (2, .p 4 0), (4, .p 14 0), (5, .ex (.int .i64 2)), (12, .ex (.int .i64 2))], [(0, .own [.int .u64 (q 0), .int .u64 (q 1), .int .u64 (q 2), .int .u64 (q 3), .int .u64 (q 4)]), (4, .own [.int .u32 0, .int .u32 0, .int .u32 0, .int .u32 0, .int .u32 0]), (14, .own [.int .u32 (q 0), .int .u32 (q 1), .int .u32 0, .int .u32 0, .int .u32 0])], 15⟩) (by kernel_rfl) (by kernel_rfl) ?_
        refine AG.gk [] [(4, { val := .ex (.int .u32 (q 2)) })] [1, 2, 4, 12] [0, 4, 14] 15 (st' := ⟨mkT 37 [(1, .p 0 0), (2, .p 4 0), (4, .p 14 0), (12, .ex (.int .i64 2))], [(0, .own [.int .u64 (q 0), .int .u64 (q 1), .int .u64 (q 2), .int .u64 (q 3), .int .u64 (q 4)]), (4, .own [.int .u32 0, .int .u32 0, .int .u32 0, .int .u32 0, .int .u32 0]), (14, .own [.int .u32 (q 0), .int .u32 (q 1), .int .u32 (q 2), .int .u32 0, .int .u32 0])], 15⟩) (obs := [Ob.eq (.ex (.int .u32 (IntKind.wrap .u32 (q 2)))) (.ex (.int .u32 (q 2)))]) (by kernel_rfl) (by kernel_rfl) ⟨(by first | (simp only [Ob.holds, w0, w1, w2, w3, w4, g1]; done) | (simp only [Ob.holds, w0, w1, w2, w3, w4, g1]; rfl)), trivial⟩ ?_
        refine AG.rk 12 [1, 2, 4, 5, 12] [0, 4, 14] 15 (todo' := [.code (sub (codeOf Try.f26) [1, 0, 1, 1, 1, 1, 0, 1, 0, 0, 1, 1, 0, 0, 1]), .inBlock 1, .code (sub (codeOf Try.f26) [1, 0, 1, 1, 1, 1, 0, 1, 0, 0, 1, 1, 1]), .inLoop (sub (codeOf Try.f26) [1, 0, 1, 1, 1, 1, 0, 1, 0, 0]), .inBlock 0, .code (sub (codeOf Try.f26) [1, 0, 1, 1, 1, 1, 1]), .inScope (sub (codeOf Try.f26) [1, 0])]) (st' := ⟨mkT 37 [(1, .p 0 0), (2, .p 4 0), (4, .p 14 0), (5, .ex (.int .i64 3)), (12, .ex (.int .i64 3))], [(0, .own [.int .u64 (q 0), .int .u64 (q 1), .int .u64 (q 2), .int .u64 (q 3), .int .u64 (q 4)]), (4, .own [.int .u32 0, .int .u32 0, .int .u32 0, .int .u32 0, .int .u32 0]), (14, .own [.int .u32 (q 0), .int .u32 (q 1), .int .u32 (q 2), .int .u32 0, .int .u32 0])], 15⟩) (by kernel_rfl) (by kernel_rfl) ?_
        refine AG.gk [] [(4, { val := .ex (.int .u32 (q 3)) })] [1, 2, 4, 12] [0, 4, 14] 15 (st' := ⟨mkT 37 [(1, .p 0 0), (2, .p 4 0), (4, .p 14 0), (12, .ex (.int .i64 3))], [(0, .own [.int .u64 (q 0), .int .u64 (q 1), .int .u64 (q 2), .int .u64 (q 3), .int .u64 (q 4)]), (4, .own [.int .u32 0, .int .u32 0, .int .u32 0, .int .u32 0, .int .u32 0]), (14, .own [.int .u32 (q 0), .int .u32 (q 1), .int .u32 (q 2), .int .u32 (q 3), .int .u32 0])], 15⟩) (obs := [Ob.eq (.ex (.int .u32 (IntKind.wrap .u32 (q 3)))) (.ex (.int .u32 (q 3)))]) (by kernel_rfl) (by kernel_rfl) ⟨(by first | (simp only [Ob.holds, w0, w1, w2, w3, w4, g1]; done) | (simp only [Ob.holds, w0, w1, w2, w3, w4, g1]; rfl)), trivial⟩ ?_
        refine AG.rk 12 [1, 2, 4, 5, 12] [0, 4, 14] 15 (todo' := [.code (sub (codeOf Try.f26) [1, 0, 1, 1, 1, 1, 0, 1, 0, 0, 1, 1, 0, 0, 1]), .inBlock 1, .code (sub (codeOf Try.f26) [1, 0, 1, 1, 1, 1, 0, 1, 0, 0, 1, 1, 1]), .inLoop (sub (codeOf Try.f26) [1, 0, 1, 1, 1, 1, 0, 1, 0, 0]), .inBlock 0, .code (sub (codeOf Try.f26) [1, 0, 1, 1, 1, 1, 1]), .inScope (sub (codeOf Try.f26) [1, 0])]) (st' := ⟨mkT 37 [(1, .p 0 0), (2, .p 4 0), (4, .p 14 0), (5, .ex (.int .i64 4)), (12, .ex (.int .i64 4))], [(0, .own [.int .u64 (q 0), .int .u64 (q 1), .int .u64 (q 2), .int .u64 (q 3), .int .u64 (q 4)]), (4, .own [.int .u32 0, .int .u32 0, .int .u32 0, .int .u32 0, .int .u32 0]), (14, .own [.int .u32 (q 0), .int .u32 (q 1), .int .u32 (q 2), .int .u32 (q 3), .int .u32 0])], 15⟩) (by kernel_rfl) (by kernel_rfl) ?_
        refine AG.gk [] [(4, { val := .ex (.int .u32 (q 4)) })] [1, 2, 4, 12] [0, 4, 14] 15 (st' := ⟨mkT 37 [(1, .p 0 0), (2, .p 4 0), (4, .p 14 0), (12, .ex (.int .i64 4))], [(0, .own [.int .u64 (q 0), .int .u64 (q 1), .int .u64 (q 2), .int .u64 (q 3), .int .u64 (q 4)]), (4, .own [.int .u32 0, .int .u32 0, .int .u32 0, .int .u32 0, .int .u32 0]), (14, .own [.int .u32 (q 0), .int .u32 (q 1), .int .u32 (q 2), .int .u32 (q 3), .int .u32 (q 4)])], 15⟩) (obs := [Ob.eq (.ex (.int .u32 (IntKind.wrap .u32 (q 4)))) (.ex (.int .u32 (q 4)))]) (by kernel_rfl) (by kernel_rfl) ⟨(by first | (simp only [Ob.holds, w0, w1, w2, w3, w4, g1]; done) | (simp only [Ob.holds, w0, w1, w2, w3, w4, g1]; rfl)), trivial⟩ ?_
        refine AG.rk 10 [2, 4] [4, 14] 15 (todo' := [.code (sub (codeOf Try.f26) [1, 0, 1, 1, 1, 1, 1, 0, 0]), .code (sub (codeOf Try.f26) [1, 0, 1, 1, 1, 1, 1, 0, 1]), .code (sub (codeOf Try.f26) [1, 0, 1, 1, 1, 1, 1, 1]), .inScope (sub (codeOf Try.f26) [1, 0])]) (st' := ⟨mkT 37 [(2, .p 4 0), (4, .p 14 0)], [(4, .own [.int .u32 0, .int .u32 0, .int .u32 0, .int .u32 0, .int .u32 0]), (14, .own [.int .u32 (q 0), .int .u32 (q 1), .int .u32 (q 2), .int .u32 (q 3), .int .u32 (q 4)])], 15⟩) (by kernel_rfl) (by kernel_rfl) ?_
        refine AG.gk [] [(4, { val := .ex (.bool false) })] [2, 4, 31] [4, 14] 15 (st' := ⟨mkT 37 [(2, .p 4 0), (4, .p 14 0), (31, .ex (.bool false))], [(4, .own [.int .u32 0, .int .u32 0, .int .u32 0, .int .u32 0, .int .u32 0]), (14, .own [.int .u32 (q 0), .int .u32 (q 1), .int .u32 (q 2), .int .u32 (q 3), .int .u32 (q 4)])], 15⟩) (obs := [Ob.eq (.ex (.bool (eqL [q 0, q 1, q 2, q 3, q 4] [q 0, 67108863, 67108863, 67108863, 67108863]))) (.ex (.bool false))]) (by kernel_rfl) (by kernel_rfl) ⟨(by first | (simp only [Ob.holds, w0, w1, w2, w3, w4, g1]; done) | (simp only [Ob.holds, w0, w1, w2, w3, w4, g1]; rfl)), trivial⟩ ?_
        refine AG.rk 4 [2] [4] 5 (todo' := [.code (sub (codeOf Try.f26) [1, 0, 1, 1, 1, 1, 1, 0, 1, 0, 1]), .inScope (sub (codeOf Try.f26) [1, 0])]) (st' := ⟨mkT 37 [(2, .p 4 0)], [(4, .own [.int .u32 (q 0), .int .u32 (q 1), .int .u32 (q 2), .int .u32 (q 3), .int .u32 (q 4)])], 5⟩) (by kernel_rfl) (by kernel_rfl) ?_
        refine AG.fin ([.ex (.agg { toList := [.int .u32 (q 0), .int .u32 (q 1), .int .u32 (q 2), .int .u32 (q 3), .int .u32 (q 4)] })]) Go.Proofs.Try.f26 fn26 (.inr ⟨_, rfl⟩) (obs := [Ob.le 5 5]) (by kernel_rfl) ⟨(Ob.holds_of_dec (by kernel_rfl)), trivial⟩ ?_ trivial (by kernel_rfl)
        exact congrArg (fun l => AV.ex (.agg (List.toArray l))) (below_list q hl hb)
end Go.Proofs.Ytlghhplheddbfaa.Ab
