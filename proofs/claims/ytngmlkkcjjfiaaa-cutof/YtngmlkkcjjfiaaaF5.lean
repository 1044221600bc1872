/- Own: half bytes joined, and the reference's (no statement is proved here). -/
import Derived.Test.YtngmlkkcjjfiaaaF2
import Derived.KernelRfl
namespace Go.Proofs.Ytngmlkkcjjfiaaa.Ab
open Go.Proofs
set_option linter.unusedSimpArgs false
set_option linter.unusedVariables false
set_option maxRecDepth 4000
theorem fn18 : Try.prog.funcs[18]? = some Try.f18 := by kernel_rfl
theorem fn17 : Try.prog.funcs[17]? = some Try.f17 := by kernel_rfl
theorem fn19 : Try.prog.funcs[19]? = some Try.f19 := by kernel_rfl
/-- A byte of two half bytes. -/
def jnb (hs : List Int) (k : Nat) : Int := bAt hs ((2 * k : Nat) : Int) % 16 * 16 + bAt hs ((2 * k + 1 : Nat) : Int) % 16
/-- ... of the first half bytes. -/
def jn (hs : List Int) (i k : Nat) : Int := (if 2 * k < i then bAt hs ((2 * k : Nat) : Int) % 16 * 16 else 0) + (if 2 * k + 1 < i then bAt hs ((2 * k + 1 : Nat) : Int) % 16 else 0)
def jst (f h : Int) (r : Nat) : Int := IntKind.u8.wrap (BitVec.ofInt 8 f ||| BitVec.ofInt 8 (IntKind.u8.wrap (IntKind.u8.wrap (BitVec.ofInt 8 h &&& BitVec.ofInt 8 15).toNat * 2 ^ min (((4 - r * 4 : Nat) : Int)).toNat 8))).toNat
theorem jst0 : ∀ m : Nat, m < 256 → jst 0 ((m : Nat) : Int) 0 = ((m : Nat) : Int) % 16 * 16 := by decide +kernel
theorem jst1 : ∀ q : Nat, q < 16 → ∀ m : Nat, m < 256 → jst (((q : Nat) : Int) * 16) ((m : Nat) : Int) 1 = ((q : Nat) : Int) * 16 + ((m : Nat) : Int) % 16 := by decide +kernel
theorem jst_eq (hs : List Int) (h8 : All8 hs) (i : Nat) : jst (jn hs i (i / 2)) (bAt hs (i : Int)) (i % 2) = jn hs (i + 1) (i / 2) := by
  have h := h8.at (i : Int)
  obtain ⟨m, hm⟩ := Int.eq_ofNat_of_zero_le h.1
  have h256 : m < 256 := by have := h.2; omega
  have hp : i % 2 = 0 ∨ i % 2 = 1 := by omega
  unfold jn
  rcases hp with hp | hp
  · rw [if_neg (by omega), if_neg (by omega), if_pos (by omega), if_neg (by omega), hp, show 2 * (i / 2) = i by omega, hm]
    have := jst0 m h256
    simpa using this
  · have hq := h8.at (((2 * (i / 2) : Nat) : Nat) : Int)
    obtain ⟨q, hq'⟩ := Int.eq_ofNat_of_zero_le (show 0 ≤ bAt hs ((2 * (i / 2) : Nat) : Int) % 16 by omega)
    rw [if_pos (by omega), if_neg (by omega), if_pos (by omega), if_pos (by omega), hp, show 2 * (i / 2) + 1 = i by omega, hm, hq', Int.add_zero]
    exact jst1 q (by omega) m h256
theorem jn_other (hs : List Int) (i k : Nat) (h : k ≠ i / 2) : jn hs (i + 1) k = jn hs i k := by
  unfold jn
  congr 1
  · by_cases h1 : 2 * k < i
    · rw [if_pos h1, if_pos (by omega)]
    · rw [if_neg h1, if_neg (by omega)]
  · by_cases h1 : 2 * k + 1 < i
    · rw [if_pos h1, if_pos (by omega)]
    · rw [if_neg h1, if_neg (by omega)]
theorem join_ok (hs : List Int) (h8 : All8 hs) (hl : hs.length ≤ 4000) (n : Nat) (hn : n = hs.length / 2 + hs.length % 2) : CallOK Try.prog (fun _ => none) 18 [.sv 0 0 hs.length] [(0, .view (hs.map (Value.int .u8)))] { val := .s 1 0 n n, upd := [(1, .own (ar8 n (jn hs hs.length)))], nks := [1] } := by
  have e1 : (hs.length : Int).tmod 2 = ((hs.length % 2 : Nat) : Int) := by rw [Int.tmod_eq_emod_of_nonneg (by omega)]; omega
  have e2 : IntKind.i64.wrap ((hs.length : Int).tdiv 2) = ((hs.length / 2 : Nat) : Int) := by rw [Int.tdiv_eq_ediv_of_nonneg (by omega), wrap64_id _ (by omega) (by omega)]; omega
  have e3 : IntKind.i64.wrap (((hs.length / 2 : Nat) : Int) + ((hs.length % 2 : Nat) : Int)) = (n : Int) := by rw [wrap64_id _ (by omega) (by omega)]; omega
  refine CallOK.from0 hmix Try.f18 1 fn18 (by kernel_rfl) (by kernel_rfl) (fun w ρ h1 h2 => ?_)
  refine AG.rk 3 [0] [0] 1 (todo' := [.code (sub (codeOf Try.f18) [1, 0]), .code (sub (codeOf Try.f18) [1, 1])]) (st' := ⟨mkT 35 [(0, .sv 0 0 (List.length hs))], [(0, .view (List.map (Value.int .u8) hs))], 1⟩) (by kernel_rfl) (by kernel_rfl) ?_
  refine AG.gk [] [(2, { val := .ex (.int .i64 (↑(List.length hs / 2) : Int)) }), (5, { val := .ex (.int .i64 (↑(List.length hs % 2) : Int)) }), (6, { val := .ex (.int .i64 (↑n : Int)) }), (7, { val := .s 29 0 n n })] [0, 3] [0, 29] 30 (st' := ⟨mkT 35 [(0, .sv 0 0 (List.length hs)), (3, .s 29 0 n n)], [(0, .view (List.map (Value.int .u8) hs)), (29, .own (List.replicate (Int.toNat (↑n : Int)) (Value.int .u8 0)))], 30⟩) (obs := [Ob.eq (.ex (.int .i64 (IntKind.wrap .i64 (Int.tdiv (↑(List.length hs) : Int) 2)))) (.ex (.int .i64 (↑(List.length hs / 2) : Int))), Ob.le 1 2, Ob.eq (.ex (.int .i64 (Int.tmod (↑(List.length hs) : Int) 2))) (.ex (.int .i64 (↑(List.length hs % 2) : Int))), Ob.le 1 2, Ob.eq (.ex (.int .i64 (IntKind.wrap .i64 ((↑(List.length hs / 2) : Int) + (↑(List.length hs % 2) : Int))))) (.ex (.int .i64 (↑n : Int))), Ob.eq (.s 29 0 (Int.toNat (↑n : Int)) (Int.toNat (↑n : Int))) (.s 29 0 n n), Ob.ix (↑n : Int) (Int.toNat (↑n : Int) + 1), Ob.ix (↑n : Int) 9223372036854775808, Ob.le (1 * Int.toNat (↑n : Int)) 281474976710656]) (by kernel_rfl) (by kernel_rfl) ⟨(by simp only [Ob.holds, e2]), (Ob.holds_of_dec (by kernel_rfl)), (by simp only [Ob.holds, e1]), (Ob.holds_of_dec (by kernel_rfl)), (by simp only [Ob.holds, e3]), (by simp only [Ob.holds, Int.toNat_natCast]), (by (simp only [Ob.holds]; omega)), (by (simp only [Ob.holds]; omega)), (by (simp only [Ob.holds]; omega)), trivial⟩ ?_
  refine AG.rk 4 [3, 14, 15, 16] [0, 29] 30 (todo' := [.code (sub (codeOf Try.f18) [1, 1, 0, 1, 0]), .inBlock 0, .code (sub (codeOf Try.f18) [1, 1, 1])]) (st' := ⟨mkT 35 [(3, .s 29 0 n n), (14, .sv 0 0 (List.length hs)), (15, .ex (.int .i64 (↑(List.length hs) : Int))), (16, .ex (.int .i64 0))], [(0, .view (List.map (Value.int .u8) hs)), (29, .own (List.replicate (Int.toNat (↑n : Int)) (Value.int .u8 0)))], 30⟩) (by kernel_rfl) (by kernel_rfl) ?_
  refine AG.rk 1 [3, 14, 15, 16] [0, 29] 30 (todo' := [.code (sub (codeOf Try.f18) [1, 1, 0, 1, 0, 0]), .inLoop (sub (codeOf Try.f18) [1, 1, 0, 1, 0, 0]), .inBlock 0, .code (sub (codeOf Try.f18) [1, 1, 1])]) (st' := ⟨mkT 35 [(3, .s 29 0 n n), (14, .sv 0 0 (List.length hs)), (15, .ex (.int .i64 (↑(List.length hs) : Int))), (16, .ex (.int .i64 0))], [(0, .view (List.map (Value.int .u8) hs)), (29, .own (List.replicate (Int.toNat (↑n : Int)) (Value.int .u8 0)))], 30⟩) (by kernel_rfl) (by kernel_rfl) ?_
  rewrite [Int.toNat_natCast, rep_ar8]
  refine AG.indE (α := {x : Nat × (Nat → Int) // x.1 ≤ hs.length ∧ ∀ k, k < n → x.2 k = jn hs x.1 k}) (fun x => hs.length - x.1.1)
    (fun x => ⟨mkT 35 [(3, .s 29 0 n n), (14, .sv 0 0 hs.length), (15, .ex (.int .i64 (hs.length : Int))), (16, .ex (.int .i64 (x.1.1 : Int)))], [(0, .view (List.map (Value.int .u8) hs)), (29, .own (ar8 n x.1.2))], 30⟩) ⟨(0, fun _ => 0), by simp, fun k _ => by simp [jn]⟩ (by kernel_rfl) ?_
  rintro ⟨⟨i, f⟩, hi, hf⟩ ih
  simp only at hi hf ih ⊢
  have hla : (ar8 n f).length = n := length_ar8 _ _
  refine AG.rk 3 [3, 14, 15, 16, 17] [0, 29] 30 (todo' := [.code (sub (codeOf Try.f18) [1, 1, 0, 1, 0, 0, 1, 0]), .code (sub (codeOf Try.f18) [1, 1, 0, 1, 0, 0, 1, 1]), .inLoop (sub (codeOf Try.f18) [1, 1, 0, 1, 0, 0]), .inBlock 0, .code (sub (codeOf Try.f18) [1, 1, 1])]) (st' := ⟨mkT 35 [(3, .s 29 0 n n), (14, .sv 0 0 (List.length hs)), (15, .ex (.int .i64 (↑(List.length hs) : Int))), (16, .ex (.int .i64 (↑i : Int))), (17, .ex (.bool (decide ((↑i : Int) < (↑(List.length hs) : Int)))))], [(0, .view (List.map (Value.int .u8) hs)), (29, .own (ar8 n f))], 30⟩) (by kernel_rfl) (by kernel_rfl) ?_
  refine AG.cond (b := decide ((↑i : Int) < (↑(List.length hs) : Int))) (by kernel_rfl) (fun hc => ?_) (fun hc => ?_)
  · have hi' : i < hs.length := by simp at hc; omega
    clear hc
    have cs := shift_ok i (by omega)
    have e2 : IntKind.i64.wrap ((i : Int).tdiv 2) = ((i / 2 : Nat) : Int) := by rw [Int.tdiv_eq_ediv_of_nonneg (by omega), wrap64_id _ (by omega) (by omega)]; omega
    have ea : (List.map (Value.int .u8) hs).getD (0 + (i : Int).toNat * 1) undef = .int .u8 (bAt hs (i : Int)) := by rw [Nat.zero_add, Nat.mul_one]; exact map_get hs _ (by omega) (by omega) _ _
    have eg : (ar8 n f).getD (0 + ((i / 2 : Nat) : Int).toNat * 1) undef = .int .u8 (f (i / 2)) := get_ar8 n f _ (by omega) (by omega)
    have e5 : IntKind.i64.wrap ((i : Int) + 1) = ((i + 1 : Nat) : Int) := by rw [wrap64_id _ (by omega) (by omega)]; omega
    refine AG.rk 4 [3, 14, 15, 16] [0, 29] 30 (todo' := [.code (sub (codeOf Try.f18) [1, 1, 0, 1, 0, 0, 1, 1, 0, 0, 0]), .code (sub (codeOf Try.f18) [1, 1, 0, 1, 0, 0, 1, 1, 0, 0, 1]), .inBlock 1, .code (sub (codeOf Try.f18) [1, 1, 0, 1, 0, 0, 1, 1, 1]), .inLoop (sub (codeOf Try.f18) [1, 1, 0, 1, 0, 0]), .inBlock 0, .code (sub (codeOf Try.f18) [1, 1, 1])]) (st' := ⟨mkT 35 [(3, .s 29 0 n n), (14, .sv 0 0 (List.length hs)), (15, .ex (.int .i64 (↑(List.length hs) : Int))), (16, .ex (.int .i64 (↑i : Int)))], [(0, .view (List.map (Value.int .u8) hs)), (29, .own (ar8 n f))], 30⟩) (by kernel_rfl) (by kernel_rfl) ?_
    refine AG.gk [1] [(2, { val := .ex (.int .u8 (bAt hs (↑i : Int))) })] [3, 4, 5, 14, 15, 16] [0, 29] 30 (st' := ⟨mkT 35 [(3, .s 29 0 n n), (4, .ex (.int .i64 (↑i : Int))), (5, .ex (.int .u8 (bAt hs (↑i : Int)))), (14, .sv 0 0 (List.length hs)), (15, .ex (.int .i64 (↑(List.length hs) : Int))), (16, .ex (.int .i64 (↑i : Int)))], [(0, .view (List.map (Value.int .u8) hs)), (29, .own (ar8 n f))], 30⟩) (obs := [Ob.ix (↑i : Int) (List.length hs), Ob.eq (.ex (List.getD (List.map (Value.int .u8) hs) (0 + Int.toNat (↑i : Int) * 1) undef)) (.ex (.int .u8 (bAt hs (↑i : Int)))), Ob.le (0 + Int.toNat (↑i : Int) * 1 + 1) (List.length (List.map (Value.int .u8) hs))]) (by kernel_rfl) (by kernel_rfl) ⟨(by (simp only [Ob.holds]; omega)), (by simp only [Ob.holds, ea]), (by (simp [Ob.holds]; omega)), trivial⟩ ?_
    refine AG.gk [3, 11, 12] [(2, { val := .ex (.int .i64 (↑(i / 2) : Int)) }), (4, { val := .ex (.int .u8 (f (i / 2))) }), (8, { val := .ex (.int .i64 (↑(4 - i % 2 * 4) : Int)) })] [3, 14, 15, 16] [0, 29] 30 (st' := ⟨mkT 35 [(3, .s 29 0 n n), (14, .sv 0 0 (List.length hs)), (15, .ex (.int .i64 (↑(List.length hs) : Int))), (16, .ex (.int .i64 (↑i : Int)))], [(0, .view (List.map (Value.int .u8) hs)), (29, .own (putAt (ar8 n f) (0 + Int.toNat (↑(i / 2) : Int) * 1) (Value.cells (Value.int .u8 (IntKind.wrap .u8 (↑(BitVec.toNat (BitVec.ofInt 8 (f (i / 2)) ||| BitVec.ofInt 8 (IntKind.wrap .u8 (IntKind.wrap .u8 (↑(BitVec.toNat (BitVec.ofInt 8 (bAt hs (↑i : Int)) &&& BitVec.ofInt 8 15)) : Int) * 2 ^ min (Int.toNat (↑(4 - i % 2 * 4) : Int)) 8)))) : Int)))).toList))], 30⟩) (obs := [Ob.eq (.ex (.int .i64 (IntKind.wrap .i64 (Int.tdiv (↑i : Int) 2)))) (.ex (.int .i64 (↑(i / 2) : Int))), Ob.le 1 2, Ob.ix (↑(i / 2) : Int) n, Ob.eq (.ex (List.getD (ar8 n f) (0 + Int.toNat (↑(i / 2) : Int) * 1) undef)) (.ex (.int .u8 (f (i / 2)))), Ob.le (0 + Int.toNat (↑(i / 2) : Int) * 1 + 1) (List.length (ar8 n f)), Ob.call (fun g => List.lookup g []) 24 [.ex (.int .i64 (↑i : Int))] [] { val := .ex (.int .i64 (↑(4 - i % 2 * 4) : Int)) }, Ob.ix (↑(i / 2) : Int) n, Ob.le (0 + Int.toNat (↑(i / 2) : Int) * 1 + 1) (List.length (ar8 n f)), Ob.le 1 1, Ob.le 1 1, Ob.one [Value.int .u8 (IntKind.wrap .u8 (↑(BitVec.toNat (BitVec.ofInt 8 (f (i / 2)) ||| BitVec.ofInt 8 (IntKind.wrap .u8 (IntKind.wrap .u8 (↑(BitVec.toNat (BitVec.ofInt 8 (bAt hs (↑i : Int)) &&& BitVec.ofInt 8 15)) : Int) * 2 ^ min (Int.toNat (↑(4 - i % 2 * 4) : Int)) 8)))) : Int))]]) (by kernel_rfl) (by kernel_rfl) ⟨(by simp only [Ob.holds, e2]), (Ob.holds_of_dec (by kernel_rfl)), (by (simp only [Ob.holds]; omega)), (by simp only [Ob.holds, eg]), (by (simp only [Ob.holds]; omega)), ((cs ).gl), (by (simp only [Ob.holds]; omega)), (by (simp only [Ob.holds]; omega)), (Ob.holds_of_dec (by kernel_rfl)), (Ob.holds_of_dec (by kernel_rfl)), (by rfl), trivial⟩ ?_
    refine AG.rk 3 [3, 14, 15, 16] [0, 29] 30 (todo' := [.code (sub (codeOf Try.f18) [1, 1, 0, 1, 0, 0]), .inLoop (sub (codeOf Try.f18) [1, 1, 0, 1, 0, 0]), .inBlock 0, .code (sub (codeOf Try.f18) [1, 1, 1])]) (st' := ⟨mkT 35 [(3, .s 29 0 n n), (14, .sv 0 0 (List.length hs)), (15, .ex (.int .i64 (↑(List.length hs) : Int))), (16, .ex (.int .i64 (IntKind.wrap .i64 ((↑i : Int) + 1))))], [(0, .view (List.map (Value.int .u8) hs)), (29, .own (putAt (ar8 n f) (0 + Int.toNat (↑(i / 2) : Int) * 1) (Value.cells (Value.int .u8 (IntKind.wrap .u8 (↑(BitVec.toNat (BitVec.ofInt 8 (f (i / 2)) ||| BitVec.ofInt 8 (IntKind.wrap .u8 (IntKind.wrap .u8 (↑(BitVec.toNat (BitVec.ofInt 8 (bAt hs (↑i : Int)) &&& BitVec.ofInt 8 15)) : Int) * 2 ^ min (Int.toNat (↑(4 - i % 2 * 4) : Int)) 8)))) : Int)))).toList))], 30⟩) (by kernel_rfl) (by kernel_rfl) ?_
    have hX : IntKind.u8.wrap (BitVec.ofInt 8 (f (i / 2)) ||| BitVec.ofInt 8 (IntKind.u8.wrap (IntKind.u8.wrap (BitVec.ofInt 8 (bAt hs (i : Int)) &&& BitVec.ofInt 8 15).toNat * 2 ^ min (((4 - i % 2 * 4 : Nat) : Int)).toNat 8))).toNat = jn hs (i + 1) (i / 2) := by
      rw [hf (i / 2) (by omega)]; exact jst_eq hs h8 i
    rewrite [hX, put_ar8 n f _ (by omega) (by omega), e5, Int.toNat_natCast]
    refine ih ⟨(i + 1, upd f (i / 2) (jn hs (i + 1) (i / 2))), hi', fun q hq => ?_⟩ (by simp only; omega)
    simp only
    unfold upd
    by_cases hqi : q = i / 2
    · subst hqi; rw [if_pos rfl]
    · rw [if_neg hqi, hf q hq, jn_other hs i q hqi]
  · have hall : ∀ k, k < n → f k = jn hs hs.length k := fun k hk => by
      have : i = hs.length := by simp at hc; omega
      rw [hf k hk, this]
    clear hc ih
    rw [ar8_congr hall]
    refine AG.rk 3 [2] [0, 29] 30 (todo' := [.code (sub (codeOf Try.f18) [1, 1, 1, 1])]) (st' := ⟨mkT 35 [(2, .s 29 0 n n)], [(0, .view (List.map (Value.int .u8) hs)), (29, .own (ar8 n (jn hs (List.length hs))))], 30⟩) (by kernel_rfl) (by kernel_rfl) ?_
    refine AG.ren 29 1 (st' := ⟨mkT 35 [(2, .s 1 0 n n)], [(0, .view (List.map (Value.int .u8) hs)), (1, .own (ar8 n (jn hs (List.length hs))))], 30⟩) (by kernel_rfl) (by kernel_rfl) ?_
    refine AG.fin ([.s 1 0 n n]) Go.Proofs.Try.f18 fn18 (.inr ⟨_, rfl⟩) (obs := []) (by kernel_rfl) trivial (by kernel_rfl) ⟨(by kernel_rfl), trivial⟩ (by kernel_rfl)
theorem jn_all (hs : List Int) (k : Nat) : jn hs hs.length k = jnb hs k := by
  unfold jn jnb
  have h0 : ∀ j : Nat, hs.length ≤ j → bAt hs (j : Int) = 0 := fun j hj => by
    unfold bAt
    simp
    omega
  congr 1
  · split
    · rfl
    · rw [h0 _ (by omega)]; rfl
  · split
    · rfl
    · rw [h0 _ (by omega)]; rfl
theorem r8_jnb (hs : List Int) (h8 : All8 hs) (k : Nat) : R8 (jnb hs k) := by
  unfold jnb R8; omega
theorem wrapU8 (v : Int) (h : 0 ≤ v ∧ v ≤ 255) : IntKind.u8.wrap v = v := by
  obtain ⟨m, rfl⟩ := Int.eq_ofNat_of_zero_le h.1
  exact (by decide +kernel : ∀ m : Nat, m < 256 → IntKind.u8.wrap ((m : Nat) : Int) = ((m : Nat) : Int)) m (by omega)
theorem rhalves_ok (bs : List Int) (h8 : All8 bs) (hl : bs.length ≤ 4000) : CallOK Try.prog (fun _ => none) 17 [.sv 0 0 bs.length] [(0, .view (bs.map (Value.int .u8)))] { val := .o 1 0 (2 * bs.length), upd := [(1, .row (ar8 (2 * bs.length) (hvb bs)))], nks := [1] } := by
  refine CallOK.from0 hmix Try.f17 1 fn17 (by kernel_rfl) (by kernel_rfl) (fun w ρ h1 h2 => ?_)
  refine AG.rk 8 [0, 3, 4] [0] 1 (todo' := [.code (sub (codeOf Try.f17) [1, 1, 0, 1, 0]), .inBlock 0, .code (sub (codeOf Try.f17) [1, 1, 1])]) (st' := ⟨mkT 25 [(0, .sv 0 0 (List.length bs)), (3, .ex (.slice none 0 0)), (4, .ex (.int .i64 0))], [(0, .view (List.map (Value.int .u8) bs))], 1⟩) (by kernel_rfl) (by kernel_rfl) ?_
  refine AG.rk 1 [0, 3, 4] [0] 1 (todo' := [.code (sub (codeOf Try.f17) [1, 1, 0, 1, 0, 0]), .inLoop (sub (codeOf Try.f17) [1, 1, 0, 1, 0, 0]), .inBlock 0, .code (sub (codeOf Try.f17) [1, 1, 1])]) (st' := ⟨mkT 25 [(0, .sv 0 0 (List.length bs)), (3, .ex (.slice none 0 0)), (4, .ex (.int .i64 0))], [(0, .view (List.map (Value.int .u8) bs))], 1⟩) (by kernel_rfl) (by kernel_rfl) ?_
  refine AG.nilrow 3 rfl rfl ?_
  refine AG.keep [0, 3, 4] [0, 1] 2 rfl (by kernel_rfl) ?_
  refine AG.indE (α := {x : Nat // x ≤ bs.length}) (fun x => bs.length - x.1)
    (fun x => ⟨mkT 25 [(0, .sv 0 0 bs.length), (3, .o 1 0 (2 * x.1)), (4, .ex (.int .i64 (x.1 : Int)))], [(0, .view (List.map (Value.int .u8) bs)), (1, .row (ar8 (2 * x.1) (hvb bs)))], 2⟩) ⟨0, by omega⟩ (by kernel_rfl) ?_
  rintro ⟨i, hi⟩ ih
  simp only at hi ih ⊢
  have hla : (ar8 (2 * i) (hvb bs)).length = 2 * i := length_ar8 _ _
  refine AG.rk 3 [0, 3, 4, 8] [0, 1] 2 (todo' := [.code (sub (codeOf Try.f17) [1, 1, 0, 1, 0, 0, 0, 1]), .code (sub (codeOf Try.f17) [1, 1, 0, 1, 0, 0, 1]), .inLoop (sub (codeOf Try.f17) [1, 1, 0, 1, 0, 0]), .inBlock 0, .code (sub (codeOf Try.f17) [1, 1, 1])]) (st' := ⟨mkT 25 [(0, .sv 0 0 (List.length bs)), (3, .o 1 0 (2 * i)), (4, .ex (.int .i64 (↑i : Int))), (8, .ex (.bool (decide ((↑i : Int) < (↑(List.length bs) : Int)))))], [(0, .view (List.map (Value.int .u8) bs)), (1, .row (ar8 (2 * i) (hvb bs)))], 2⟩) (by kernel_rfl) (by kernel_rfl) ?_
  refine AG.cond (b := decide ((↑i : Int) < (↑(List.length bs) : Int))) (by kernel_rfl) (fun hc => ?_) (fun hc => ?_)
  · have hi' : i < bs.length := by simp at hc; omega
    clear hc
    have ea : (List.map (Value.int .u8) bs).getD (0 + (i : Int).toNat * 1) undef = .int .u8 (bAt bs (i : Int)) := by rw [Nat.zero_add, Nat.mul_one]; exact map_get bs _ (by omega) (by omega) _ _
    have hb := h8.at (i : Int)
    have e0 : IntKind.u8.wrap ((bAt bs (i : Int)).tdiv 16) = hvb bs (2 * i) := by
      unfold hvb
      rw [if_pos (by omega), show 2 * i / 2 = i by omega, Int.tdiv_eq_ediv_of_nonneg hb.1, wrapU8 _ (by have := hb.1; have := hb.2; omega)]
    have e1 : (bAt bs (i : Int)).tmod 16 = hvb bs (2 * i + 1) := by
      unfold hvb
      rw [if_neg (by omega), show (2 * i + 1) / 2 = i by omega, Int.tmod_eq_emod_of_nonneg hb.1]
    have e5 : IntKind.i64.wrap ((i : Int) + 1) = ((i + 1 : Nat) : Int) := by rw [wrap64_id _ (by omega) (by omega)]; omega
    have ih1 := ih ⟨i + 1, by omega⟩ (by simp only; omega)
    simp only at ih1
    have eB : ar8 (2 * (i + 1)) (hvb bs) = ar8 (2 * i) (hvb bs) ++ [Value.int .u8 (hvb bs (2 * i)), Value.int .u8 (hvb bs (2 * i + 1))] := by
      rw [show 2 * (i + 1) = 2 * i + 1 + 1 by omega, ← ar8_succ, ← ar8_succ, List.append_assoc]; rfl
    refine AG.rk 3 [0, 3, 4] [0, 1] 2 (todo' := [.code (sub (codeOf Try.f17) [1, 1, 0, 1, 0, 0, 1, 0, 0]), .inBlock 1, .code (sub (codeOf Try.f17) [1, 1, 0, 1, 0, 0, 1, 1]), .inLoop (sub (codeOf Try.f17) [1, 1, 0, 1, 0, 0]), .inBlock 0, .code (sub (codeOf Try.f17) [1, 1, 1])]) (st' := ⟨mkT 25 [(0, .sv 0 0 (List.length bs)), (3, .o 1 0 (2 * i)), (4, .ex (.int .i64 (↑i : Int)))], [(0, .view (List.map (Value.int .u8) bs)), (1, .row (ar8 (2 * i) (hvb bs)))], 2⟩) (by kernel_rfl) (by kernel_rfl) ?_
    refine AG.gk [3, 8, 12] [(4, { val := .ex (.int .u8 (bAt bs (↑i : Int))) }), (5, { val := .ex (.int .u8 (hvb bs (2 * i))) }), (9, { val := .ex (.int .u8 (bAt bs (↑i : Int))) }), (10, { val := .ex (.int .u8 (hvb bs (2 * i + 1))) })] [0, 3, 4] [0, 50] 51 (st' := ⟨mkT 25 [(0, .sv 0 0 (List.length bs)), (3, .o 50 0 (List.length (ar8 (2 * i) (hvb bs)) + List.length (List.take 2 (List.drop 0 [Value.int .u8 (hvb bs (2 * i)), Value.int .u8 (hvb bs (2 * i + 1))])))), (4, .ex (.int .i64 (↑i : Int)))], [(0, .view (List.map (Value.int .u8) bs)), (50, .row (ar8 (2 * i) (hvb bs) ++ List.take 2 (List.drop 0 [Value.int .u8 (hvb bs (2 * i)), Value.int .u8 (hvb bs (2 * i + 1))])))], 51⟩) (obs := [Ob.ix (↑i : Int) (List.length bs), Ob.eq (.ex (List.getD (List.map (Value.int .u8) bs) (0 + Int.toNat (↑i : Int) * 1) undef)) (.ex (.int .u8 (bAt bs (↑i : Int)))), Ob.le (0 + Int.toNat (↑i : Int) * 1 + 1) (List.length (List.map (Value.int .u8) bs)), Ob.eq (.ex (.int .u8 (IntKind.wrap .u8 (Int.tdiv (bAt bs (↑i : Int)) 16)))) (.ex (.int .u8 (hvb bs (2 * i)))), Ob.le 1 16, Ob.ix (↑i : Int) (List.length bs), Ob.eq (.ex (List.getD (List.map (Value.int .u8) bs) (0 + Int.toNat (↑i : Int) * 1) undef)) (.ex (.int .u8 (bAt bs (↑i : Int)))), Ob.le (0 + Int.toNat (↑i : Int) * 1 + 1) (List.length (List.map (Value.int .u8) bs)), Ob.eq (.ex (.int .u8 (Int.tmod (bAt bs (↑i : Int)) 16))) (.ex (.int .u8 (hvb bs (2 * i + 1)))), Ob.le 1 16, Ob.le ((List.length (ar8 (2 * i) (hvb bs)) + List.length (List.take 2 (List.drop 0 [Value.int .u8 (hvb bs (2 * i)), Value.int .u8 (hvb bs (2 * i + 1))]))) * 1) 140737488355328, Ob.le (List.length (ar8 (2 * i) (hvb bs)) + List.length (List.take 2 (List.drop 0 [Value.int .u8 (hvb bs (2 * i)), Value.int .u8 (hvb bs (2 * i + 1))]))) 140737488355328, Ob.one [Value.int .u8 (hvb bs (2 * i)), Value.int .u8 (hvb bs (2 * i + 1))], Ob.le (2 * i) (List.length (ar8 (2 * i) (hvb bs))), Ob.le (List.length (ar8 (2 * i) (hvb bs))) (2 * i), Ob.le 2 2]) (by kernel_rfl) (by kernel_rfl) ⟨(by (simp only [Ob.holds]; omega)), (by simp only [Ob.holds, ea]), (by (simp [Ob.holds]; omega)), (by simp only [Ob.holds, e0]), (Ob.holds_of_dec (by kernel_rfl)), (by (simp only [Ob.holds]; omega)), (by simp only [Ob.holds, ea]), (by (simp [Ob.holds]; omega)), (by simp only [Ob.holds, e1]), (Ob.holds_of_dec (by kernel_rfl)), (by (simp [Ob.holds]; omega)), (by (simp [Ob.holds]; omega)), (by rfl), (by (simp only [Ob.holds]; omega)), (by (simp only [Ob.holds]; omega)), (Ob.holds_of_dec (by kernel_rfl)), trivial⟩ ?_
    refine AG.rk 3 [0, 3, 4] [0, 50] 51 (todo' := [.code (sub (codeOf Try.f17) [1, 1, 0, 1, 0, 0]), .inLoop (sub (codeOf Try.f17) [1, 1, 0, 1, 0, 0]), .inBlock 0, .code (sub (codeOf Try.f17) [1, 1, 1])]) (st' := ⟨mkT 25 [(0, .sv 0 0 (List.length bs)), (3, .o 50 0 (List.length (ar8 (2 * i) (hvb bs)) + List.length (List.take 2 (List.drop 0 [Value.int .u8 (hvb bs (2 * i)), Value.int .u8 (hvb bs (2 * i + 1))])))), (4, .ex (.int .i64 (IntKind.wrap .i64 ((↑i : Int) + 1))))], [(0, .view (List.map (Value.int .u8) bs)), (50, .row (ar8 (2 * i) (hvb bs) ++ List.take 2 (List.drop 0 [Value.int .u8 (hvb bs (2 * i)), Value.int .u8 (hvb bs (2 * i + 1))])))], 51⟩) (by kernel_rfl) (by kernel_rfl) ?_
    have eT : List.take 2 (List.drop 0 [Value.int IntKind.u8 (hvb bs (2 * i)), Value.int IntKind.u8 (hvb bs (2 * i + 1))]) = [Value.int IntKind.u8 (hvb bs (2 * i)), Value.int IntKind.u8 (hvb bs (2 * i + 1))] := rfl
    rewrite [eT, ← eB, hla, e5]
    refine AG.ren 50 1 rfl (by kernel_rfl) ?_
    refine AG.keep [0, 3, 4] [0, 1] 2 rfl (by kernel_rfl) ?_
    exact AG.conv (by kernel_rfl) ih1
  · obtain rfl : i = bs.length := by simp at hc; omega
    clear hc ih
    refine AG.rk 3 [2] [0, 1] 2 (todo' := [.code (sub (codeOf Try.f17) [1, 1, 1, 1])]) (st' := ⟨mkT 25 [(2, .o 1 0 (2 * List.length bs))], [(0, .view (List.map (Value.int .u8) bs)), (1, .row (ar8 (2 * List.length bs) (hvb bs)))], 2⟩) (by kernel_rfl) (by kernel_rfl) ?_
    refine AG.fin ([.o 1 0 (2 * List.length bs)]) Go.Proofs.Try.f17 fn17 (.inr ⟨_, rfl⟩) (obs := []) (by kernel_rfl) trivial (by kernel_rfl) ⟨(by kernel_rfl), trivial⟩ (by kernel_rfl)
theorem rjoin_ok (hs : List Int) (h8 : All8 hs) (hl : hs.length ≤ 4000) : CallOK Try.prog (fun _ => none) 19 [.sv 0 0 hs.length] [(0, .view (hs.map (Value.int .u8)))] { val := .o 1 0 ((hs.length + 1) / 2), upd := [(1, .row (ar8 ((hs.length + 1) / 2) (jnb hs)))], nks := [1] } := by
  refine CallOK.from0 hmix Try.f19 1 fn19 (by kernel_rfl) (by kernel_rfl) (fun w ρ h1 h2 => ?_)
  refine AG.rk 8 [0, 3, 4] [0] 1 (todo' := [.code (sub (codeOf Try.f19) [1, 1, 0, 1, 0]), .inBlock 0, .code (sub (codeOf Try.f19) [1, 1, 1])]) (st' := ⟨mkT 36 [(0, .sv 0 0 (List.length hs)), (3, .ex (.slice none 0 0)), (4, .ex (.int .i64 0))], [(0, .view (List.map (Value.int .u8) hs))], 1⟩) (by kernel_rfl) (by kernel_rfl) ?_
  refine AG.rk 1 [0, 3, 4] [0] 1 (todo' := [.code (sub (codeOf Try.f19) [1, 1, 0, 1, 0, 0]), .inLoop (sub (codeOf Try.f19) [1, 1, 0, 1, 0, 0]), .inBlock 0, .code (sub (codeOf Try.f19) [1, 1, 1])]) (st' := ⟨mkT 36 [(0, .sv 0 0 (List.length hs)), (3, .ex (.slice none 0 0)), (4, .ex (.int .i64 0))], [(0, .view (List.map (Value.int .u8) hs))], 1⟩) (by kernel_rfl) (by kernel_rfl) ?_
  refine AG.nilrow 3 rfl rfl ?_
  refine AG.keep [0, 3, 4] [0, 1] 2 rfl (by kernel_rfl) ?_
  refine AG.indE (α := {x : Nat // x ≤ (hs.length + 1) / 2}) (fun x => (hs.length + 1) / 2 - x.1)
    (fun x => ⟨mkT 36 [(0, .sv 0 0 hs.length), (3, .o 1 0 x.1), (4, .ex (.int .i64 ((2 * x.1 : Nat) : Int)))], [(0, .view (List.map (Value.int .u8) hs)), (1, .row (ar8 x.1 (jnb hs)))], 2⟩) ⟨0, by omega⟩ (by kernel_rfl) ?_
  rintro ⟨k, hk⟩ ih
  simp only at hk ih ⊢
  have hla : (ar8 k (jnb hs)).length = k := length_ar8 _ _
  refine AG.rk 3 [0, 3, 4, 9] [0, 1] 2 (todo' := [.code (sub (codeOf Try.f19) [1, 1, 0, 1, 0, 0, 0, 1]), .code (sub (codeOf Try.f19) [1, 1, 0, 1, 0, 0, 1]), .inLoop (sub (codeOf Try.f19) [1, 1, 0, 1, 0, 0]), .inBlock 0, .code (sub (codeOf Try.f19) [1, 1, 1])]) (st' := ⟨mkT 36 [(0, .sv 0 0 (List.length hs)), (3, .o 1 0 k), (4, .ex (.int .i64 (↑(2 * k) : Int))), (9, .ex (.bool (decide ((↑(2 * k) : Int) < (↑(List.length hs) : Int)))))], [(0, .view (List.map (Value.int .u8) hs)), (1, .row (ar8 k (jnb hs)))], 2⟩) (by kernel_rfl) (by kernel_rfl) ?_
  refine AG.cond (b := decide ((↑(2 * k) : Int) < (↑(List.length hs) : Int))) (by kernel_rfl) (fun hc => ?_) (fun hc => ?_)
  · have hk' : 2 * k < hs.length := by simp at hc; omega
    clear hc
    have ea : (List.map (Value.int .u8) hs).getD (0 + ((2 * k : Nat) : Int).toNat * 1) undef = .int .u8 (bAt hs ((2 * k : Nat) : Int)) := by rw [Nat.zero_add, Nat.mul_one]; exact map_get hs _ (by omega) (by omega) _ _
    have hb := h8.at ((2 * k : Nat) : Int)
    have hb1 := hb.1
    have e0 : (bAt hs ((2 * k : Nat) : Int)).tmod 16 = bAt hs ((2 * k : Nat) : Int) % 16 := Int.tmod_eq_emod_of_nonneg hb1
    have e1 : IntKind.u8.wrap (bAt hs ((2 * k : Nat) : Int) % 16 * 16) = bAt hs ((2 * k : Nat) : Int) % 16 * 16 := wrapU8 _ (by omega)
    have e5 : IntKind.i64.wrap (((2 * k : Nat) : Int) + 2) = ((2 * (k + 1) : Nat) : Int) := by rw [wrap64_id _ (by omega) (by omega)]; omega
    have e6 : IntKind.i64.wrap (((2 * k : Nat) : Int) + 1) = ((2 * k + 1 : Nat) : Int) := by rw [wrap64_id _ (by omega) (by omega)]; omega
    have ih1 := ih ⟨k + 1, by omega⟩ (by simp only; omega)
    simp only at ih1
    have eB : ar8 (k + 1) (jnb hs) = ar8 k (jnb hs) ++ [Value.int .u8 (jnb hs k)] := (ar8_succ k (jnb hs)).symm
    have eT : List.take 1 (List.drop 0 [Value.int IntKind.u8 (jnb hs k)]) = [Value.int IntKind.u8 (jnb hs k)] := rfl
    by_cases hlt : 2 * k + 1 < hs.length
    · have g0 : decide (((2 * k + 1 : Nat) : Int) < (hs.length : Int)) = true := by simp; omega
      have ec : (List.map (Value.int .u8) hs).getD (0 + ((2 * k + 1 : Nat) : Int).toNat * 1) undef = .int .u8 (bAt hs ((2 * k + 1 : Nat) : Int)) := by rw [Nat.zero_add, Nat.mul_one]; exact map_get hs _ (by omega) (by omega) _ _
      have hd1 := (h8.at ((2 * k + 1 : Nat) : Int)).1
      have e2 : (bAt hs ((2 * k + 1 : Nat) : Int)).tmod 16 = bAt hs ((2 * k + 1 : Nat) : Int) % 16 := Int.tmod_eq_emod_of_nonneg hd1
      have e3 : IntKind.u8.wrap (bAt hs ((2 * k : Nat) : Int) % 16 * 16 + bAt hs ((2 * k + 1 : Nat) : Int) % 16) = jnb hs k := wrapU8 _ (by omega)
      refine AG.rk 4 [0, 3, 4] [0, 1] 2 (todo' := [.code (sub (codeOf Try.f19) [1, 1, 0, 1, 0, 0, 1, 0, 0, 0]), .code (sub (codeOf Try.f19) [1, 1, 0, 1, 0, 0, 1, 0, 0, 1]), .inBlock 1, .code (sub (codeOf Try.f19) [1, 1, 0, 1, 0, 0, 1, 1]), .inLoop (sub (codeOf Try.f19) [1, 1, 0, 1, 0, 0]), .inBlock 0, .code (sub (codeOf Try.f19) [1, 1, 1])]) (st' := ⟨mkT 36 [(0, .sv 0 0 (List.length hs)), (3, .o 1 0 k), (4, .ex (.int .i64 (↑(2 * k) : Int)))], [(0, .view (List.map (Value.int .u8) hs)), (1, .row (ar8 k (jnb hs)))], 2⟩) (by kernel_rfl) (by kernel_rfl) ?_
      refine AG.gk [2] [(3, { val := .ex (.int .u8 (bAt hs (↑(2 * k) : Int))) }), (4, { val := .ex (.int .u8 (bAt hs (↑(2 * k) : Int) % 16)) }), (5, { val := .ex (.int .u8 (bAt hs (↑(2 * k) : Int) % 16 * 16)) })] [0, 3, 4, 5] [0, 1] 2 (st' := ⟨mkT 36 [(0, .sv 0 0 (List.length hs)), (3, .o 1 0 k), (4, .ex (.int .i64 (↑(2 * k) : Int))), (5, .ex (.int .u8 (bAt hs (↑(2 * k) : Int) % 16 * 16)))], [(0, .view (List.map (Value.int .u8) hs)), (1, .row (ar8 k (jnb hs)))], 2⟩) (obs := [Ob.ix (↑(2 * k) : Int) (List.length hs), Ob.eq (.ex (List.getD (List.map (Value.int .u8) hs) (0 + Int.toNat (↑(2 * k) : Int) * 1) undef)) (.ex (.int .u8 (bAt hs (↑(2 * k) : Int)))), Ob.le (0 + Int.toNat (↑(2 * k) : Int) * 1 + 1) (List.length (List.map (Value.int .u8) hs)), Ob.eq (.ex (.int .u8 (Int.tmod (bAt hs (↑(2 * k) : Int)) 16))) (.ex (.int .u8 (bAt hs (↑(2 * k) : Int) % 16))), Ob.le 1 16, Ob.eq (.ex (.int .u8 (IntKind.wrap .u8 (bAt hs (↑(2 * k) : Int) % 16 * 16)))) (.ex (.int .u8 (bAt hs (↑(2 * k) : Int) % 16 * 16)))]) (by kernel_rfl) (by kernel_rfl) ⟨(by (simp only [Ob.holds]; omega)), (by simp only [Ob.holds, ea]), (by (simp [Ob.holds]; omega)), (by simp only [Ob.holds, e0]), (Ob.holds_of_dec (by kernel_rfl)), (by simp only [Ob.holds, e1]), trivial⟩ ?_
      refine AG.rk 2 [0, 3, 4, 5] [0, 1] 2 (todo' := [.code (sub (codeOf Try.f19) [1, 1, 0, 1, 0, 0, 1, 0, 0, 1, 0, 0]), .code (sub (codeOf Try.f19) [1, 1, 0, 1, 0, 0, 1, 0, 0, 1, 0, 1]), .code (sub (codeOf Try.f19) [1, 1, 0, 1, 0, 0, 1, 0, 0, 1, 1]), .inBlock 1, .code (sub (codeOf Try.f19) [1, 1, 0, 1, 0, 0, 1, 1]), .inLoop (sub (codeOf Try.f19) [1, 1, 0, 1, 0, 0]), .inBlock 0, .code (sub (codeOf Try.f19) [1, 1, 1])]) (st' := ⟨mkT 36 [(0, .sv 0 0 (List.length hs)), (3, .o 1 0 k), (4, .ex (.int .i64 (↑(2 * k) : Int))), (5, .ex (.int .u8 (bAt hs (↑(2 * k) : Int) % 16 * 16)))], [(0, .view (List.map (Value.int .u8) hs)), (1, .row (ar8 k (jnb hs)))], 2⟩) (by kernel_rfl) (by kernel_rfl) ?_
      refine AG.gk [] [(1, { val := .ex (.int .i64 (↑(2 * k + 1) : Int)) }), (4, { val := .ex (.bool true) })] [0, 3, 4, 5, 22] [0, 1] 2 (st' := ⟨mkT 36 [(0, .sv 0 0 (List.length hs)), (3, .o 1 0 k), (4, .ex (.int .i64 (↑(2 * k) : Int))), (5, .ex (.int .u8 (bAt hs (↑(2 * k) : Int) % 16 * 16))), (22, .ex (.bool true))], [(0, .view (List.map (Value.int .u8) hs)), (1, .row (ar8 k (jnb hs)))], 2⟩) (obs := [Ob.eq (.ex (.int .i64 (IntKind.wrap .i64 ((↑(2 * k) : Int) + 1)))) (.ex (.int .i64 (↑(2 * k + 1) : Int))), Ob.eq (.ex (.bool (decide ((↑(2 * k + 1) : Int) < (↑(List.length hs) : Int))))) (.ex (.bool true))]) (by kernel_rfl) (by kernel_rfl) ⟨(by simp only [Ob.holds, e6]), (by simp only [Ob.holds, g0]), trivial⟩ ?_
      refine AG.rk 1 [0, 3, 4, 5] [0, 1] 2 (todo' := [.code (sub (codeOf Try.f19) [1, 1, 0, 1, 0, 0, 1, 0, 0, 1, 0, 1, 0]), .code (sub (codeOf Try.f19) [1, 1, 0, 1, 0, 0, 1, 0, 0, 1, 1]), .inBlock 1, .code (sub (codeOf Try.f19) [1, 1, 0, 1, 0, 0, 1, 1]), .inLoop (sub (codeOf Try.f19) [1, 1, 0, 1, 0, 0]), .inBlock 0, .code (sub (codeOf Try.f19) [1, 1, 1])]) (st' := ⟨mkT 36 [(0, .sv 0 0 (List.length hs)), (3, .o 1 0 k), (4, .ex (.int .i64 (↑(2 * k) : Int))), (5, .ex (.int .u8 (bAt hs (↑(2 * k) : Int) % 16 * 16)))], [(0, .view (List.map (Value.int .u8) hs)), (1, .row (ar8 k (jnb hs)))], 2⟩) (by kernel_rfl) (by kernel_rfl) ?_
      refine AG.gk [4] [(3, { val := .ex (.int .i64 (↑(2 * k + 1) : Int)) }), (5, { val := .ex (.int .u8 (bAt hs (↑(2 * k + 1) : Int))) }), (6, { val := .ex (.int .u8 (bAt hs (↑(2 * k + 1) : Int) % 16)) }), (7, { val := .ex (.int .u8 (jnb hs k)) })] [0, 3, 4, 5] [0, 1] 2 (st' := ⟨mkT 36 [(0, .sv 0 0 (List.length hs)), (3, .o 1 0 k), (4, .ex (.int .i64 (↑(2 * k) : Int))), (5, .ex (.int .u8 (jnb hs k)))], [(0, .view (List.map (Value.int .u8) hs)), (1, .row (ar8 k (jnb hs)))], 2⟩) (obs := [Ob.eq (.ex (.int .i64 (IntKind.wrap .i64 ((↑(2 * k) : Int) + 1)))) (.ex (.int .i64 (↑(2 * k + 1) : Int))), Ob.ix (↑(2 * k + 1) : Int) (List.length hs), Ob.eq (.ex (List.getD (List.map (Value.int .u8) hs) (0 + Int.toNat (↑(2 * k + 1) : Int) * 1) undef)) (.ex (.int .u8 (bAt hs (↑(2 * k + 1) : Int)))), Ob.le (0 + Int.toNat (↑(2 * k + 1) : Int) * 1 + 1) (List.length (List.map (Value.int .u8) hs)), Ob.eq (.ex (.int .u8 (Int.tmod (bAt hs (↑(2 * k + 1) : Int)) 16))) (.ex (.int .u8 (bAt hs (↑(2 * k + 1) : Int) % 16))), Ob.le 1 16, Ob.eq (.ex (.int .u8 (IntKind.wrap .u8 (bAt hs (↑(2 * k) : Int) % 16 * 16 + bAt hs (↑(2 * k + 1) : Int) % 16)))) (.ex (.int .u8 (jnb hs k)))]) (by kernel_rfl) (by kernel_rfl) ⟨(by simp only [Ob.holds, e6]), (by (simp only [Ob.holds]; omega)), (by simp only [Ob.holds, ec]), (by (simp [Ob.holds]; omega)), (by simp only [Ob.holds, e2]), (Ob.holds_of_dec (by kernel_rfl)), (by simp only [Ob.holds, e3]), trivial⟩ ?_
      refine AG.gk [3] [] [0, 3, 4] [0, 14] 15 (st' := ⟨mkT 36 [(0, .sv 0 0 (List.length hs)), (3, .o 14 0 (List.length (ar8 k (jnb hs)) + List.length (List.take 1 (List.drop 0 [Value.int .u8 (jnb hs k)])))), (4, .ex (.int .i64 (↑(2 * k) : Int)))], [(0, .view (List.map (Value.int .u8) hs)), (14, .row (ar8 k (jnb hs) ++ List.take 1 (List.drop 0 [Value.int .u8 (jnb hs k)])))], 15⟩) (obs := [Ob.le ((List.length (ar8 k (jnb hs)) + List.length (List.take 1 (List.drop 0 [Value.int .u8 (jnb hs k)]))) * 1) 140737488355328, Ob.le (List.length (ar8 k (jnb hs)) + List.length (List.take 1 (List.drop 0 [Value.int .u8 (jnb hs k)]))) 140737488355328, Ob.one [Value.int .u8 (jnb hs k)], Ob.le k (List.length (ar8 k (jnb hs))), Ob.le (List.length (ar8 k (jnb hs))) k, Ob.le 1 1]) (by kernel_rfl) (by kernel_rfl) ⟨(by (simp [Ob.holds]; omega)), (by (simp [Ob.holds]; omega)), (by rfl), (by (simp only [Ob.holds]; omega)), (by (simp only [Ob.holds]; omega)), (Ob.holds_of_dec (by kernel_rfl)), trivial⟩ ?_
      refine AG.rk 3 [0, 3, 4] [0, 14] 15 (todo' := [.code (sub (codeOf Try.f19) [1, 1, 0, 1, 0, 0]), .inLoop (sub (codeOf Try.f19) [1, 1, 0, 1, 0, 0]), .inBlock 0, .code (sub (codeOf Try.f19) [1, 1, 1])]) (st' := ⟨mkT 36 [(0, .sv 0 0 (List.length hs)), (3, .o 14 0 (List.length (ar8 k (jnb hs)) + List.length (List.take 1 (List.drop 0 [Value.int .u8 (jnb hs k)])))), (4, .ex (.int .i64 (IntKind.wrap .i64 ((↑(2 * k) : Int) + 2))))], [(0, .view (List.map (Value.int .u8) hs)), (14, .row (ar8 k (jnb hs) ++ List.take 1 (List.drop 0 [Value.int .u8 (jnb hs k)])))], 15⟩) (by kernel_rfl) (by kernel_rfl) ?_
      rewrite [eT, ← eB, hla, e5]
      refine AG.ren 14 1 rfl (by kernel_rfl) ?_
      refine AG.keep [0, 3, 4] [0, 1] 2 rfl (by kernel_rfl) ?_
      exact AG.conv (by kernel_rfl) ih1
    · have g0 : decide (((2 * k + 1 : Nat) : Int) < (hs.length : Int)) = false := by simp; omega
      have e3 : bAt hs ((2 * k : Nat) : Int) % 16 * 16 = jnb hs k := by
        unfold jnb
        have : bAt hs ((2 * k + 1 : Nat) : Int) = 0 := by unfold bAt; simp; omega
        rw [this]; omega
      rw [e3] at e1
      refine AG.rk 4 [0, 3, 4] [0, 1] 2 (todo' := [.code (sub (codeOf Try.f19) [1, 1, 0, 1, 0, 0, 1, 0, 0, 0]), .code (sub (codeOf Try.f19) [1, 1, 0, 1, 0, 0, 1, 0, 0, 1]), .inBlock 1, .code (sub (codeOf Try.f19) [1, 1, 0, 1, 0, 0, 1, 1]), .inLoop (sub (codeOf Try.f19) [1, 1, 0, 1, 0, 0]), .inBlock 0, .code (sub (codeOf Try.f19) [1, 1, 1])]) (st' := ⟨mkT 36 [(0, .sv 0 0 (List.length hs)), (3, .o 1 0 k), (4, .ex (.int .i64 (↑(2 * k) : Int)))], [(0, .view (List.map (Value.int .u8) hs)), (1, .row (ar8 k (jnb hs)))], 2⟩) (by kernel_rfl) (by kernel_rfl) ?_
      refine AG.gk [2] [(3, { val := .ex (.int .u8 (bAt hs (↑(2 * k) : Int))) }), (4, { val := .ex (.int .u8 (bAt hs (↑(2 * k) : Int) % 16)) }), (5, { val := .ex (.int .u8 (jnb hs k)) })] [0, 3, 4, 5] [0, 1] 2 (st' := ⟨mkT 36 [(0, .sv 0 0 (List.length hs)), (3, .o 1 0 k), (4, .ex (.int .i64 (↑(2 * k) : Int))), (5, .ex (.int .u8 (jnb hs k)))], [(0, .view (List.map (Value.int .u8) hs)), (1, .row (ar8 k (jnb hs)))], 2⟩) (obs := [Ob.ix (↑(2 * k) : Int) (List.length hs), Ob.eq (.ex (List.getD (List.map (Value.int .u8) hs) (0 + Int.toNat (↑(2 * k) : Int) * 1) undef)) (.ex (.int .u8 (bAt hs (↑(2 * k) : Int)))), Ob.le (0 + Int.toNat (↑(2 * k) : Int) * 1 + 1) (List.length (List.map (Value.int .u8) hs)), Ob.eq (.ex (.int .u8 (Int.tmod (bAt hs (↑(2 * k) : Int)) 16))) (.ex (.int .u8 (bAt hs (↑(2 * k) : Int) % 16))), Ob.le 1 16, Ob.eq (.ex (.int .u8 (IntKind.wrap .u8 (bAt hs (↑(2 * k) : Int) % 16 * 16)))) (.ex (.int .u8 (jnb hs k)))]) (by kernel_rfl) (by kernel_rfl) ⟨(by (simp only [Ob.holds]; omega)), (by simp only [Ob.holds, ea]), (by (simp [Ob.holds]; omega)), (by simp only [Ob.holds, e0]), (Ob.holds_of_dec (by kernel_rfl)), (by simp only [Ob.holds, ea, e0, e3, e1, e6, g0]), trivial⟩ ?_
      refine AG.rk 2 [0, 3, 4, 5] [0, 1] 2 (todo' := [.code (sub (codeOf Try.f19) [1, 1, 0, 1, 0, 0, 1, 0, 0, 1, 0, 0]), .code (sub (codeOf Try.f19) [1, 1, 0, 1, 0, 0, 1, 0, 0, 1, 0, 1]), .code (sub (codeOf Try.f19) [1, 1, 0, 1, 0, 0, 1, 0, 0, 1, 1]), .inBlock 1, .code (sub (codeOf Try.f19) [1, 1, 0, 1, 0, 0, 1, 1]), .inLoop (sub (codeOf Try.f19) [1, 1, 0, 1, 0, 0]), .inBlock 0, .code (sub (codeOf Try.f19) [1, 1, 1])]) (st' := ⟨mkT 36 [(0, .sv 0 0 (List.length hs)), (3, .o 1 0 k), (4, .ex (.int .i64 (↑(2 * k) : Int))), (5, .ex (.int .u8 (jnb hs k)))], [(0, .view (List.map (Value.int .u8) hs)), (1, .row (ar8 k (jnb hs)))], 2⟩) (by kernel_rfl) (by kernel_rfl) ?_
      refine AG.gk [] [(1, { val := .ex (.int .i64 (↑(2 * k + 1) : Int)) }), (4, { val := .ex (.bool false) })] [0, 3, 4, 5, 22] [0, 1] 2 (st' := ⟨mkT 36 [(0, .sv 0 0 (List.length hs)), (3, .o 1 0 k), (4, .ex (.int .i64 (↑(2 * k) : Int))), (5, .ex (.int .u8 (jnb hs k))), (22, .ex (.bool false))], [(0, .view (List.map (Value.int .u8) hs)), (1, .row (ar8 k (jnb hs)))], 2⟩) (obs := [Ob.eq (.ex (.int .i64 (IntKind.wrap .i64 ((↑(2 * k) : Int) + 1)))) (.ex (.int .i64 (↑(2 * k + 1) : Int))), Ob.eq (.ex (.bool (decide ((↑(2 * k + 1) : Int) < (↑(List.length hs) : Int))))) (.ex (.bool false))]) (by kernel_rfl) (by kernel_rfl) ⟨(by simp only [Ob.holds, e6]), (by simp only [Ob.holds, g0]), trivial⟩ ?_
      refine AG.rk 2 [0, 3, 4, 5] [0, 1] 2 (todo' := [.code (sub (codeOf Try.f19) [1, 1, 0, 1, 0, 0, 1, 0, 0, 1, 1]), .inBlock 1, .code (sub (codeOf Try.f19) [1, 1, 0, 1, 0, 0, 1, 1]), .inLoop (sub (codeOf Try.f19) [1, 1, 0, 1, 0, 0]), .inBlock 0, .code (sub (codeOf Try.f19) [1, 1, 1])]) (st' := ⟨mkT 36 [(0, .sv 0 0 (List.length hs)), (3, .o 1 0 k), (4, .ex (.int .i64 (↑(2 * k) : Int))), (5, .ex (.int .u8 (jnb hs k)))], [(0, .view (List.map (Value.int .u8) hs)), (1, .row (ar8 k (jnb hs)))], 2⟩) (by kernel_rfl) (by kernel_rfl) ?_
      refine AG.gk [3] [] [0, 3, 4] [0, 14] 15 (st' := ⟨mkT 36 [(0, .sv 0 0 (List.length hs)), (3, .o 14 0 (List.length (ar8 k (jnb hs)) + List.length (List.take 1 (List.drop 0 [Value.int .u8 (jnb hs k)])))), (4, .ex (.int .i64 (↑(2 * k) : Int)))], [(0, .view (List.map (Value.int .u8) hs)), (14, .row (ar8 k (jnb hs) ++ List.take 1 (List.drop 0 [Value.int .u8 (jnb hs k)])))], 15⟩) (obs := [Ob.le ((List.length (ar8 k (jnb hs)) + List.length (List.take 1 (List.drop 0 [Value.int .u8 (jnb hs k)]))) * 1) 140737488355328, Ob.le (List.length (ar8 k (jnb hs)) + List.length (List.take 1 (List.drop 0 [Value.int .u8 (jnb hs k)]))) 140737488355328, Ob.one [Value.int .u8 (jnb hs k)], Ob.le k (List.length (ar8 k (jnb hs))), Ob.le (List.length (ar8 k (jnb hs))) k, Ob.le 1 1]) (by kernel_rfl) (by kernel_rfl) ⟨(by (simp [Ob.holds]; omega)), (by (simp [Ob.holds]; omega)), (by rfl), (by (simp only [Ob.holds]; omega)), (by (simp only [Ob.holds]; omega)), (Ob.holds_of_dec (by kernel_rfl)), trivial⟩ ?_
      refine AG.rk 3 [0, 3, 4] [0, 14] 15 (todo' := [.code (sub (codeOf Try.f19) [1, 1, 0, 1, 0, 0]), .inLoop (sub (codeOf Try.f19) [1, 1, 0, 1, 0, 0]), .inBlock 0, .code (sub (codeOf Try.f19) [1, 1, 1])]) (st' := ⟨mkT 36 [(0, .sv 0 0 (List.length hs)), (3, .o 14 0 (List.length (ar8 k (jnb hs)) + List.length (List.take 1 (List.drop 0 [Value.int .u8 (jnb hs k)])))), (4, .ex (.int .i64 (IntKind.wrap .i64 ((↑(2 * k) : Int) + 2))))], [(0, .view (List.map (Value.int .u8) hs)), (14, .row (ar8 k (jnb hs) ++ List.take 1 (List.drop 0 [Value.int .u8 (jnb hs k)])))], 15⟩) (by kernel_rfl) (by kernel_rfl) ?_
      rewrite [eT, ← eB, hla, e5]
      refine AG.ren 14 1 rfl (by kernel_rfl) ?_
      refine AG.keep [0, 3, 4] [0, 1] 2 rfl (by kernel_rfl) ?_
      exact AG.conv (by kernel_rfl) ih1
  · obtain rfl : k = (hs.length + 1) / 2 := by simp at hc; omega
    clear hc ih
    refine AG.rk 3 [2] [0, 1] 2 (todo' := [.code (sub (codeOf Try.f19) [1, 1, 1, 1])]) (st' := ⟨mkT 36 [(2, .o 1 0 ((List.length hs + 1) / 2))], [(0, .view (List.map (Value.int .u8) hs)), (1, .row (ar8 ((List.length hs + 1) / 2) (jnb hs)))], 2⟩) (by kernel_rfl) (by kernel_rfl) ?_
    refine AG.fin ([.o 1 0 ((List.length hs + 1) / 2)]) Go.Proofs.Try.f19 fn19 (.inr ⟨_, rfl⟩) (obs := []) (by kernel_rfl) trivial (by kernel_rfl) ⟨(by kernel_rfl), trivial⟩ (by kernel_rfl)
end Go.Proofs.Ytngmlkkcjjfiaaa.Ab
