/- Own: sums of layer 12; bytes of blocks as two numbers (no statement is proved here). -/
import Derived.Test.YtddnfcgbfpbagaaD2
import Derived.KernelRfl
namespace Go.Proofs.Ytddnfcgbfpbagaa.Ab
open Go.Proofs
set_option linter.unusedSimpArgs false
set_option linter.unusedVariables false
theorem fn23 : Try.prog.funcs[23]? = some Try.f23 := by kernel_rfl
theorem fn24 : Try.prog.funcs[24]? = some Try.f24 := by kernel_rfl
theorem fn19 : Try.prog.funcs[19]? = some Try.f19 := by kernel_rfl
def sumLo (H B : Nat → Int) : Int := plusLo (w2lo H) (w2lo B)
def sumHi (H B : Nat → Int) : Int := plusHi (w2lo H) (w2hi H) (w2lo B) (w2hi B)
def hdF (a : Nat → Int) (m : Nat) (t : List Int) : Nat → Int := lowv (tv (kn a) ((List.range 16).map (len8 m) ++ t))
def bdF (b w : Nat → Int) (bs : List Int) : Nat → Int := lowv (tv (kn b) (pcsL w (padL bs) ((bs.length + 1023) / 1024)))
theorem sum_ok (a b w : Nat → Int) (ha : A16 a) (hb : A16 b) (t bs : List Int) (ht8 : All8 t) (htl : t.length ≤ 90000) (h8 : All8 bs) (hl : bs.length ≤ 90000) : CallOK Try.prog (fun _ => none) 20 [.p 0 0, .sv 1 0 t.length, .sv 2 0 bs.length] [(0, .view (adC a b w)), (1, .view (t.map (Value.int .u8))), (2, .view (bs.map (Value.int .u8)))] { val := .ex (.agg #[.int .u64 (sumLo (hdF a bs.length t) (bdF b w bs)), .int .u64 (sumHi (hdF a bs.length t) (bdF b w bs))]) } := by
  have c1 := head_ok a b w ha t ht8 (by omega) (bs.length : Int) bs.length (by simp) (by omega)
  have c2 := body_ok a b w hb bs h8 hl
  rw [show lowv (tv (kn a) ((List.range 16).map (len8 bs.length) ++ t)) = hdF a bs.length t from rfl] at c1
  rw [show lowv (tv (kn b) (pcsL w (padL bs) ((bs.length + 1023) / 1024))) = bdF b w bs from rfl] at c2
  generalize hdF a bs.length t = H at *
  generalize bdF b w bs = B at *
  have c3 := wplus_ok (w2lo H) (w2hi H) (w2lo B) (w2hi B) (r64_long8 _ _ _ _ _ _ _ _) (r64_long8 _ _ _ _ _ _ _ _) (r64_long8 _ _ _ _ _ _ _ _) (r64_long8 _ _ _ _ _ _ _ _)
  unfold w2 at c1 c2
  unfold sumLo sumHi
  generalize w2lo H = x1 at *
  generalize w2hi H = x2 at *
  generalize w2lo B = x3 at *
  generalize w2hi B = x4 at *
  generalize adC a b w = C at *
  refine CallOK.from0 hmix Try.f20 3 fn20 (by kernel_rfl) (by kernel_rfl) (fun wl ρ h1 h2 => ?_)
  refine AG.rk 3 [0, 1, 2, 6] [0, 1, 2, 3] 4 (todo' := [.code (sub (codeOf Try.f20) [1, 0]), .code (sub (codeOf Try.f20) [1, 1])]) (st' := ⟨mkT 16 [(0, .p 0 0), (1, .sv 1 0 (List.length t)), (2, .sv 2 0 (List.length bs)), (6, .p 3 0)], [(0, .view C), (1, .view (List.map (Value.int .u8) t)), (2, .view (List.map (Value.int .u8) bs)), (3, .own [Value.int .u64 0, Value.int .u64 0])], 4⟩) (by kernel_rfl) (by kernel_rfl) ?_
  refine AG.gk [] [(4, useR [(0, 0, 0), (1, 1, 0)] 20 ({ val := .ex (.agg #[Value.int .u64 x1, Value.int .u64 x2]) })), (7, useR [(0, 0, 0), (1, 2, 0)] 32 ({ val := .ex (.agg #[Value.int .u64 x3, Value.int .u64 x4]) })), (8, { val := .ex (.agg #[Value.int .u64 (plusLo x1 x3), Value.int .u64 (plusHi x1 x2 x3 x4)]) })] [6] [0, 1, 2, 3] 4 (st' := ⟨mkT 16 [(6, .p 3 0)], [(0, .view C), (1, .view (List.map (Value.int .u8) t)), (2, .view (List.map (Value.int .u8) bs)), (3, .own [Value.int .u64 (plusLo x1 x3), Value.int .u64 (plusHi x1 x2 x3 x4)])], 4⟩) (obs := [Ob.call (fun g => List.lookup g []) 21 [.p 0 0, .sv 1 0 (List.length t), .ex (.int .i64 (↑(List.length bs) : Int))] [(0, .view C), (1, .view (List.map (Value.int .u8) t))] (useR [(0, 0, 0), (1, 1, 0)] 20 { val := .ex (.agg #[Value.int .u64 x1, Value.int .u64 x2]) }), Ob.call (fun g => List.lookup g []) 22 [.p 0 0, .sv 2 0 (List.length bs)] [(0, .view C), (2, .view (List.map (Value.int .u8) bs))] (useR [(0, 0, 0), (1, 2, 0)] 32 { val := .ex (.agg #[Value.int .u64 x3, Value.int .u64 x4]) }), Ob.call (fun g => List.lookup g []) 33 [.ex (.agg { toList := [Value.int .u64 x1, Value.int .u64 x2] }), .ex (.agg { toList := [Value.int .u64 x3, Value.int .u64 x4] })] [] { val := .ex (.agg #[Value.int .u64 (plusLo x1 x3), Value.int .u64 (plusHi x1 x2 x3 x4)]) }]) (by kernel_rfl) (by kernel_rfl) ⟨(CallOK.at0 [(0, 0, 0), (1, 1, 0)] 20 (c1 ) (.cons (.p rfl) (.cons (.vv rfl) (.cons (.ex _) .nil))) (.cons rfl rfl ⟨_, rfl, (by exact cov_all _)⟩ (.cons rfl rfl ⟨_, rfl, (by exact cov_all _)⟩ .nil)) (by kernel_rfl)), (CallOK.at0 [(0, 0, 0), (1, 2, 0)] 32 (c2 ) (.cons (.p rfl) (.cons (.vv rfl) .nil)) (.cons rfl rfl ⟨_, rfl, (by exact cov_all _)⟩ (.cons rfl rfl ⟨_, rfl, (by exact cov_all _)⟩ .nil)) (by kernel_rfl)), ((c3 ).gl), trivial⟩ ?_
  refine AG.fin ([.ex (.agg { toList := [Value.int .u64 (plusLo x1 x3), Value.int .u64 (plusHi x1 x2 x3 x4)] })]) Go.Proofs.Try.f20 fn20 (.inr ⟨_, rfl⟩) (obs := [Ob.le 2 2]) (by kernel_rfl) ⟨(Ob.holds_of_dec (by kernel_rfl)), trivial⟩ (by kernel_rfl) trivial (by kernel_rfl)
theorem sum_nil (n m : Nat) : CallOK Try.prog (fun _ => none) 20 [.ex (.pointer none), .sv 0 0 n, .sv 1 0 m] [(0, .view []), (1, .view [])] { val := .ex (.agg #[.int .u64 0, .int .u64 0]) } := by
  have c1 := head_nil (.j) (m : Int) n
  have c2 := body_nil m
  have c3 := wplus_ok 0 0 0 0 ⟨by decide, by decide⟩ ⟨by decide, by decide⟩ ⟨by decide, by decide⟩ ⟨by decide, by decide⟩
  refine CallOK.from0 hmix Try.f20 2 fn20 (by kernel_rfl) (by kernel_rfl) (fun wl ρ h1 h2 => ?_)
  refine AG.rk 3 [0, 1, 2, 6] [0, 1, 2] 3 (todo' := [.code (sub (codeOf Try.f20) [1, 0]), .code (sub (codeOf Try.f20) [1, 1])]) (st' := ⟨mkT 16 [(0, .ex (.pointer none)), (1, .sv 0 0 n), (2, .sv 1 0 m), (6, .p 2 0)], [(0, .view []), (1, .view []), (2, .own [Value.int .u64 0, Value.int .u64 0])], 3⟩) (by kernel_rfl) (by kernel_rfl) ?_
  refine AG.gk [] [(4, useR [(0, 0, 0)] 19 ({ val := .ex (.agg #[Value.int .u64 0, Value.int .u64 0]) })), (7, useR [(0, 1, 0)] 31 ({ val := .ex (.agg #[Value.int .u64 0, Value.int .u64 0]) })), (8, { val := .ex (.agg #[Value.int .u64 (plusLo 0 0), Value.int .u64 (plusHi 0 0 0 0)]) })] [6] [0, 1, 2] 3 (st' := ⟨mkT 16 [(6, .p 2 0)], [(0, .view []), (1, .view []), (2, .own [Value.int .u64 0, Value.int .u64 0])], 3⟩) (obs := [Ob.call (fun g => List.lookup g []) 21 [.ex (.pointer none), .sv 0 0 n, .ex (.int .i64 (↑m : Int))] [(0, .view [])] (useR [(0, 0, 0)] 19 { val := .ex (.agg #[Value.int .u64 0, Value.int .u64 0]) }), Ob.call (fun g => List.lookup g []) 22 [.ex (.pointer none), .sv 1 0 m] [(1, .view [])] (useR [(0, 1, 0)] 31 { val := .ex (.agg #[Value.int .u64 0, Value.int .u64 0]) }), Ob.call (fun g => List.lookup g []) 33 [.ex (.agg { toList := [Value.int .u64 0, Value.int .u64 0] }), .ex (.agg { toList := [Value.int .u64 0, Value.int .u64 0] })] [] { val := .ex (.agg #[Value.int .u64 (plusLo 0 0), Value.int .u64 (plusHi 0 0 0 0)]) }]) (by kernel_rfl) (by kernel_rfl) ⟨(CallOK.at0 [(0, 0, 0)] 19 (c1 ) (.cons (.ex _) (.cons (.vv rfl) (.cons (.ex _) .nil))) (.cons rfl rfl ⟨_, rfl, (by simp)⟩ .nil) (by kernel_rfl)), (CallOK.at0 [(0, 1, 0)] 31 (c2 ) (.cons (.ex _) (.cons (.vv rfl) .nil)) (.cons rfl rfl ⟨_, rfl, (by simp)⟩ .nil) (by kernel_rfl)), ((c3 ).gl), trivial⟩ ?_
  refine AG.fin ([.ex (.agg { toList := [Value.int .u64 0, Value.int .u64 0] })]) Go.Proofs.Try.f20 fn20 (.inr ⟨_, rfl⟩) (obs := [Ob.le 2 2]) (by kernel_rfl) ⟨(Ob.holds_of_dec (by kernel_rfl)), trivial⟩ (by kernel_rfl) trivial (by kernel_rfl)
theorem lbytes_ok (lo hi : Int) : CallOK Try.prog (fun _ => none) 24 [.ex (.agg #[.int .u64 lo, .int .u64 hi])] [] { val := .ex (.agg (ar8 16 (wbytes lo hi)).toArray) } := by
  have c1 := bytes_ok lo hi
  generalize wbytes lo hi = f at *
  refine CallOK.from0 hmix Try.f24 0 fn24 (by kernel_rfl) (by kernel_rfl) (fun wl ρ h1 h2 => ?_)
  refine AG.rk 3 [1, 2] [0, 4] 5 (todo' := [.code (sub (codeOf Try.f24) [1, 0]), .code (sub (codeOf Try.f24) [1, 1])]) (st' := ⟨mkT 5 [(1, .p 0 0), (2, .p 4 0)], [(0, .own [Value.int .u64 lo, Value.int .u64 hi]), (4, .own (List.replicate 16 (Value.int .u8 0)))], 5⟩) (by kernel_rfl) (by kernel_rfl) ?_
  refine AG.gk [] [(1, { val := .ex (.agg (List.toArray (ar8 16 f))) })] [2] [4] 5 (st' := ⟨mkT 5 [(2, .p 4 0)], [(4, .own (ar8 16 f))], 5⟩) (obs := [Ob.call (fun g => List.lookup g []) 40 [.ex (.agg { toList := [Value.int .u64 lo, Value.int .u64 hi] })] [] { val := .ex (.agg (List.toArray (ar8 16 f))) }]) (by kernel_rfl) (by kernel_rfl) ⟨((c1 ).gl), trivial⟩ ?_
  refine AG.fin ([.ex (.agg { toList := ar8 16 f })]) Go.Proofs.Try.f24 fn24 (.inr ⟨_, rfl⟩) (obs := [Ob.le 16 16]) (by kernel_rfl) ⟨(Ob.holds_of_dec (by kernel_rfl)), trivial⟩ (by kernel_rfl) trivial (by kernel_rfl)
theorem llong_ok (n : Nat) : CallOK Try.prog (fun _ => none) 19 [.sv 0 0 n] [(0, .view [])] { val := .ex (.bool ((n : Int) == 1104)) } := by
  refine CallOK.from0 hmix Try.f19 1 fn19 (by kernel_rfl) (by kernel_rfl) (fun wl ρ h1 h2 => ?_)
  refine AG.rk 4 [2] [0] 1 (todo' := [.code (sub (codeOf Try.f19) [1, 1])]) (st' := ⟨mkT 6 [(2, .ex (.bool ((↑n : Int) == 1104)))], [(0, .view [])], 1⟩) (by kernel_rfl) (by kernel_rfl) ?_
  refine AG.fin ([.ex (.bool ((↑n : Int) == 1104))]) Go.Proofs.Try.f19 fn19 (.inr ⟨_, rfl⟩) (obs := []) (by kernel_rfl) trivial (by kernel_rfl) trivial (by kernel_rfl)
end Go.Proofs.Ytddnfcgbfpbagaa.Ab
