/- Own: parts, offsets and the tweaked block function of layer 15 (no statement is proved here). -/
import Derived.Test.YtfdkdbbigpphcaaDoorJ1
import Derived.KernelRfl
namespace Go.Proofs.YtfdkdbbigpphcaaDoor.Ab
open Go.Proofs Go.RowKit
set_option linter.unusedSimpArgs false
set_option linter.unusedVariables false
set_option maxRecDepth 4000
-- AGLIM=12
theorem fn14 : Tryd.prog.funcs[14]? = some Tryd.f14 := by kernel_rfl
theorem fn20 : Tryd.prog.funcs[20]? = some Tryd.f20 := by kernel_rfl
theorem fn19 : Tryd.prog.funcs[19]? = some Tryd.f19 := by kernel_rfl
theorem fn34 : Tryd.prog.funcs[34]? = some Tryd.f34 := by kernel_rfl
/-- So many times a block; a block doubled so often. -/
def mE (n : Nat) (v : E) : E := rv (mulE (BitVec.ofNat 64 n) (rv v))
def dE (n : Nat) (v : E) : E := rv (dn hov n (rv v))
def upE (i : Nat) : Nat := i / 8 + min (i % 8) 1
def offE (i0 j0 l0 : E) (j i : Nat) : E := (mE j j0 ^^^ dE (upE i) i0) ^^^ mE (i % 8) l0
/-- The cells of a key's parts. -/
abbrev kA (f g h : Nat → Int) : List AV := AV.p 1 0 :: (ar8 16 f ++ (ar8 16 g ++ ar8 16 h)).map AV.ex
theorem mult_e (n : Nat) (hn : n < 18446744073709551616) (v : E) : CallOK Tryd.prog (fun _ => none) 24 [.ex (.int .u64 (n : Int)), .ex (.agg (ar8 16 (byt v)).toArray)] [] { val := .ex (.agg (ar8 16 (byt (mE n v))).toArray) } := by
  have c := multiple_e (BitVec.ofNat 64 n) v
  rw [show B (BitVec.ofNat 64 n) = (n : Int) from by
    show (((BitVec.ofNat 64 n).toNat : Nat) : Int) = n
    rw [BitVec.toNat_ofNat, Nat.mod_eq_of_lt (by omega)]] at c
  exact c
theorem rais_e (n : Nat) (hn : n < 9223372036854775808) (v : E) : CallOK Tryd.prog (fun _ => none) 26 [.ex (.int .i64 (n : Int)), .ex (.agg (ar8 16 (byt v)).toArray)] [] { val := .ex (.agg (ar8 16 (byt (dE n v))).toArray) } := raised_e n hn v
theorem part0_ok (tb : List Value) (f g h : Nat → Int) : CallOK Tryd.prog (fun _ => none) 14 [.p 0 0, .ex (.int .i64 0)] [(0, .mixv (kA f g h)), (1, .own tb)] { val := .ex (.agg (ar8 16 f).toArray), upd := [(1, .own tb)], wks := [1] } := by
  refine CallOK.from0 hmix Tryd.f14 2 fn14 (by kernel_rfl) (by kernel_rfl) (fun w ρ h1 h2 => ?_)
  refine AG.rk 9 [4] [0, 1, 2] 3 (todo' := [.code (sub (codeOf Tryd.f14) [1, 0, 1, 0, 1])]) (st' := ⟨mkT 22 [(4, .p 2 0)], [(0, .mixv (.p 1 0 :: .ex (.int .u8 (f 0)) :: .ex (.int .u8 (f 1)) :: .ex (.int .u8 (f 2)) :: .ex (.int .u8 (f 3)) :: .ex (.int .u8 (f 4)) :: .ex (.int .u8 (f 5)) :: .ex (.int .u8 (f 6)) :: .ex (.int .u8 (f 7)) :: .ex (.int .u8 (f 8)) :: .ex (.int .u8 (f 9)) :: .ex (.int .u8 (f 10)) :: .ex (.int .u8 (f 11)) :: .ex (.int .u8 (f 12)) :: .ex (.int .u8 (f 13)) :: .ex (.int .u8 (f 14)) :: .ex (.int .u8 (f 15)) :: .ex (.int .u8 (g 0)) :: .ex (.int .u8 (g 1)) :: .ex (.int .u8 (g 2)) :: .ex (.int .u8 (g 3)) :: .ex (.int .u8 (g 4)) :: .ex (.int .u8 (g 5)) :: .ex (.int .u8 (g 6)) :: .ex (.int .u8 (g 7)) :: .ex (.int .u8 (g 8)) :: .ex (.int .u8 (g 9)) :: .ex (.int .u8 (g 10)) :: .ex (.int .u8 (g 11)) :: .ex (.int .u8 (g 12)) :: ([.ex (.int .u8 (g 13)), .ex (.int .u8 (g 14)), .ex (.int .u8 (g 15))] ++ List.map .ex (ar8 16 h)))), (1, .own tb), (2, .own (ar8 16 f))], 3⟩) (by kernel_rfl) (by kernel_rfl) ?_
  refine AG.fin ([.ex (.agg { toList := ar8 16 f })]) Go.Proofs.Tryd.f14 fn14 (.inr ⟨_, rfl⟩) (obs := [Ob.le 16 16]) (by kernel_rfl) ⟨(Ob.holds_of_dec (by kernel_rfl)), trivial⟩ (by kernel_rfl) ⟨(by kernel_rfl), trivial⟩ (by kernel_rfl)
theorem part1_ok (tb : List Value) (f g h : Nat → Int) : CallOK Tryd.prog (fun _ => none) 14 [.p 0 0, .ex (.int .i64 1)] [(0, .mixv (kA f g h)), (1, .own tb)] { val := .ex (.agg (ar8 16 g).toArray), upd := [(1, .own tb)], wks := [1] } := by
  refine CallOK.from0 hmix Tryd.f14 2 fn14 (by kernel_rfl) (by kernel_rfl) (fun w ρ h1 h2 => ?_)
  refine AG.rk 9 [4] [0, 1, 2] 3 (todo' := [.code (sub (codeOf Tryd.f14) [1, 0, 1, 0, 1])]) (st' := ⟨mkT 22 [(4, .p 2 0)], [(0, .mixv (.p 1 0 :: .ex (.int .u8 (f 0)) :: .ex (.int .u8 (f 1)) :: .ex (.int .u8 (f 2)) :: .ex (.int .u8 (f 3)) :: .ex (.int .u8 (f 4)) :: .ex (.int .u8 (f 5)) :: .ex (.int .u8 (f 6)) :: .ex (.int .u8 (f 7)) :: .ex (.int .u8 (f 8)) :: .ex (.int .u8 (f 9)) :: .ex (.int .u8 (f 10)) :: .ex (.int .u8 (f 11)) :: .ex (.int .u8 (f 12)) :: .ex (.int .u8 (f 13)) :: .ex (.int .u8 (f 14)) :: .ex (.int .u8 (f 15)) :: .ex (.int .u8 (g 0)) :: .ex (.int .u8 (g 1)) :: .ex (.int .u8 (g 2)) :: .ex (.int .u8 (g 3)) :: .ex (.int .u8 (g 4)) :: .ex (.int .u8 (g 5)) :: .ex (.int .u8 (g 6)) :: .ex (.int .u8 (g 7)) :: .ex (.int .u8 (g 8)) :: .ex (.int .u8 (g 9)) :: .ex (.int .u8 (g 10)) :: .ex (.int .u8 (g 11)) :: .ex (.int .u8 (g 12)) :: ([.ex (.int .u8 (g 13)), .ex (.int .u8 (g 14)), .ex (.int .u8 (g 15))] ++ List.map .ex (ar8 16 h)))), (1, .own tb), (2, .own (ar8 16 g))], 3⟩) (by kernel_rfl) (by kernel_rfl) ?_
  refine AG.fin ([.ex (.agg { toList := ar8 16 g })]) Go.Proofs.Tryd.f14 fn14 (.inr ⟨_, rfl⟩) (obs := [Ob.le 16 16]) (by kernel_rfl) ⟨(Ob.holds_of_dec (by kernel_rfl)), trivial⟩ (by kernel_rfl) ⟨(by kernel_rfl), trivial⟩ (by kernel_rfl)
theorem part2_ok (tb : List Value) (f g h : Nat → Int) : CallOK Tryd.prog (fun _ => none) 14 [.p 0 0, .ex (.int .i64 2)] [(0, .mixv (kA f g h)), (1, .own tb)] { val := .ex (.agg (ar8 16 h).toArray), upd := [(1, .own tb)], wks := [1] } := by
  refine CallOK.from0 hmix Tryd.f14 2 fn14 (by kernel_rfl) (by kernel_rfl) (fun w ρ h1 h2 => ?_)
  refine AG.rk 9 [4] [0, 1, 2] 3 (todo' := [.code (sub (codeOf Tryd.f14) [1, 0, 1, 0, 1])]) (st' := ⟨mkT 22 [(4, .p 2 0)], [(0, .mixv (.p 1 0 :: .ex (.int .u8 (f 0)) :: .ex (.int .u8 (f 1)) :: .ex (.int .u8 (f 2)) :: .ex (.int .u8 (f 3)) :: .ex (.int .u8 (f 4)) :: .ex (.int .u8 (f 5)) :: .ex (.int .u8 (f 6)) :: .ex (.int .u8 (f 7)) :: .ex (.int .u8 (f 8)) :: .ex (.int .u8 (f 9)) :: .ex (.int .u8 (f 10)) :: .ex (.int .u8 (f 11)) :: .ex (.int .u8 (f 12)) :: .ex (.int .u8 (f 13)) :: .ex (.int .u8 (f 14)) :: .ex (.int .u8 (f 15)) :: .ex (.int .u8 (g 0)) :: .ex (.int .u8 (g 1)) :: .ex (.int .u8 (g 2)) :: .ex (.int .u8 (g 3)) :: .ex (.int .u8 (g 4)) :: .ex (.int .u8 (g 5)) :: .ex (.int .u8 (g 6)) :: .ex (.int .u8 (g 7)) :: .ex (.int .u8 (g 8)) :: .ex (.int .u8 (g 9)) :: .ex (.int .u8 (g 10)) :: .ex (.int .u8 (g 11)) :: .ex (.int .u8 (g 12)) :: ([.ex (.int .u8 (g 13)), .ex (.int .u8 (g 14)), .ex (.int .u8 (g 15))] ++ List.map .ex (ar8 16 h)))), (1, .own tb), (2, .own (ar8 16 h))], 3⟩) (by kernel_rfl) (by kernel_rfl) ?_
  refine AG.fin ([.ex (.agg { toList := ar8 16 h })]) Go.Proofs.Tryd.f14 fn14 (.inr ⟨_, rfl⟩) (obs := [Ob.le 16 16]) (by kernel_rfl) ⟨(Ob.holds_of_dec (by kernel_rfl)), trivial⟩ (by kernel_rfl) ⟨(by kernel_rfl), trivial⟩ (by kernel_rfl)
theorem offset_ok (tb : List Value) (i0 j0 l0 : E) (j i : Nat) (hj : j < 9223372036854775808) (hi : i < 9223372036854775808) : CallOK Tryd.prog (fun _ => none) 20 [.p 0 0, .ex (.int .i64 (j : Int)), .ex (.int .i64 (i : Int))] [(0, .mixv (kA (byt i0) (byt j0) (byt l0))), (1, .own tb)] { val := .ex (.agg (ar8 16 (byt (offE i0 j0 l0 j i))).toArray), upd := [(1, .own tb)], wks := [1] } := by
  have hu : upE i < 9223372036854775808 := by unfold upE; omega
  have c1 := mult_e j (by omega) j0
  have c2 := rais_e (upE i) hu i0
  have c3 := ezplus_e (mE j j0) (dE (upE i) i0)
  have c4 := mult_e (i % 8) (by omega) l0
  have c5 := ezplus_e (mE j j0 ^^^ dE (upE i) i0) (mE (i % 8) l0)
  unfold offE
  generalize byt ((mE j j0 ^^^ dE (upE i) i0) ^^^ mE (i % 8) l0) = f1 at *
  generalize byt (mE j j0 ^^^ dE (upE i) i0) = f2 at *
  generalize byt (mE j j0) = f3 at *
  generalize byt (dE (upE i) i0) = f4 at *
  generalize byt (mE (i % 8) l0) = f5 at *
  generalize byt i0 = f6 at *
  generalize byt j0 = f7 at *
  generalize byt l0 = f8 at *
  have g1 : decide ((j : Int) < 0) = false := by simp
  have g2 : decide ((i : Int) < 0) = false := by simp
  have w1 : IntKind.u64.wrap (j : Int) = (j : Int) := by rw [wrap_u64]; omega
  have t1 : (i : Int).tdiv 8 = ((i / 8 : Nat) : Int) := by rw [Int.tdiv_eq_ediv_of_nonneg (by omega)]; omega
  have t2 : (i : Int).tmod 8 = ((i % 8 : Nat) : Int) := by rw [Int.tmod_eq_emod_of_nonneg (by omega)]; omega
  have w2 : IntKind.i64.wrap (IntKind.i64.wrap ((i : Int).tdiv 8) + if 1 < (i : Int).tmod 8 then 1 else (i : Int).tmod 8) = (upE i : Int) := by
    rw [t1, t2, wrap64_id ((i / 8 : Nat) : Int) (by omega) (by omega)]
    unfold upE
    rw [wrap64_id _ (by split <;> omega) (by split <;> omega)]
    split <;> omega
  have w3 : IntKind.u64.wrap ((i : Int).tmod 8) = ((i % 8 : Nat) : Int) := by rw [t2, wrap_u64]; omega
  clear t1 t2
  refine CallOK.from0 hmix Tryd.f20 2 fn20 (by kernel_rfl) (by kernel_rfl) (fun w ρ h1 h2 => ?_)
  refine AG.rs 15 [([], []), ([], []), ([], [(5, { val := .ex (.int .i64 (↑(upE i) : Int)) })]), ([], [(1, { val := .ex (.int .u64 (↑j : Int)) }), (6, { val := .ex (.agg { toList := ar8 16 f7 }) }), (7, { val := .ex (.agg (List.toArray (ar8 16 f3))) })]), ([], [(0, { val := .ex (.agg { toList := ar8 16 f3 }) }), (6, { val := .ex (.agg { toList := ar8 16 f6 }) }), (7, { val := .ex (.agg (List.toArray (ar8 16 f4))) }), (8, { val := .ex (.agg (List.toArray (ar8 16 f2))) })]), ([], [(0, { val := .ex (.agg { toList := ar8 16 f2 }) }), (3, { val := .ex (.int .u64 (↑(i % 8) : Int)) }), (8, { val := .ex (.agg { toList := ar8 16 f8 }) }), (9, { val := .ex (.agg (List.toArray (ar8 16 f5))) }), (10, { val := .ex (.agg (List.toArray (ar8 16 f1))) })])] [6] [0, 1, 2] 3 (todo' := [.code (sub (codeOf Tryd.f20) [1, 0, 1, 0, 1])]) (st' := ⟨mkT 54 [(6, .p 2 0)], [(0, .mixv (.p 1 0 :: .ex (.int .u8 (f6 0)) :: .ex (.int .u8 (f6 1)) :: .ex (.int .u8 (f6 2)) :: .ex (.int .u8 (f6 3)) :: .ex (.int .u8 (f6 4)) :: .ex (.int .u8 (f6 5)) :: .ex (.int .u8 (f6 6)) :: .ex (.int .u8 (f6 7)) :: .ex (.int .u8 (f6 8)) :: .ex (.int .u8 (f6 9)) :: .ex (.int .u8 (f6 10)) :: .ex (.int .u8 (f6 11)) :: .ex (.int .u8 (f6 12)) :: .ex (.int .u8 (f6 13)) :: .ex (.int .u8 (f6 14)) :: .ex (.int .u8 (f6 15)) :: .ex (.int .u8 (f7 0)) :: .ex (.int .u8 (f7 1)) :: .ex (.int .u8 (f7 2)) :: .ex (.int .u8 (f7 3)) :: .ex (.int .u8 (f7 4)) :: .ex (.int .u8 (f7 5)) :: .ex (.int .u8 (f7 6)) :: .ex (.int .u8 (f7 7)) :: .ex (.int .u8 (f7 8)) :: .ex (.int .u8 (f7 9)) :: .ex (.int .u8 (f7 10)) :: .ex (.int .u8 (f7 11)) :: .ex (.int .u8 (f7 12)) :: ([.ex (.int .u8 (f7 13)), .ex (.int .u8 (f7 14)), .ex (.int .u8 (f7 15))] ++ List.map .ex (ar8 16 f8)))), (1, .own tb), (2, .own (ar8 16 f1))], 3⟩) (obs := [Ob.eq (.ex (.int .i64 (IntKind.wrap .i64 (IntKind.wrap .i64 (Int.tdiv (↑i : Int) 8) + if 1 < Int.tmod (↑i : Int) 8 then 1 else Int.tmod (↑i : Int) 8)))) (.ex (.int .i64 (↑(upE i) : Int))), Ob.eq (.ex (.int .u64 (IntKind.wrap .u64 (↑j : Int)))) (.ex (.int .u64 (↑j : Int))), Ob.eq (.ex (.agg { toList := ar8 16 f7 })) (.ex (.agg { toList := ar8 16 f7 })), Ob.le 33 49, Ob.call (fun g => List.lookup g []) 24 [.ex (.int .u64 (↑j : Int)), .ex (.agg { toList := ar8 16 f7 })] [] { val := .ex (.agg (List.toArray (ar8 16 f3))) }, Ob.eq (.ex (.agg { toList := ar8 16 f3 })) (.ex (.agg { toList := ar8 16 f3 })), Ob.le 16 16, Ob.eq (.ex (.agg { toList := ar8 16 f6 })) (.ex (.agg { toList := ar8 16 f6 })), Ob.le 17 49, Ob.call (fun g => List.lookup g []) 26 [.ex (.int .i64 (↑(upE i) : Int)), .ex (.agg { toList := ar8 16 f6 })] [] { val := .ex (.agg (List.toArray (ar8 16 f4))) }, Ob.call (fun g => List.lookup g []) 35 [.ex (.agg { toList := ar8 16 f3 }), .ex (.agg { toList := ar8 16 f4 })] [] { val := .ex (.agg (List.toArray (ar8 16 f2))) }, Ob.eq (.ex (.agg { toList := ar8 16 f2 })) (.ex (.agg { toList := ar8 16 f2 })), Ob.le 16 16, Ob.eq (.ex (.int .u64 (IntKind.wrap .u64 (Int.tmod (↑i : Int) 8)))) (.ex (.int .u64 (↑(i % 8) : Int))), Ob.eq (.ex (.agg { toList := ar8 16 f8 })) (.ex (.agg { toList := ar8 16 f8 })), Ob.le 49 49, Ob.call (fun g => List.lookup g []) 24 [.ex (.int .u64 (↑(i % 8) : Int)), .ex (.agg { toList := ar8 16 f8 })] [] { val := .ex (.agg (List.toArray (ar8 16 f5))) }, Ob.call (fun g => List.lookup g []) 35 [.ex (.agg { toList := ar8 16 f2 }), .ex (.agg { toList := ar8 16 f5 })] [] { val := .ex (.agg (List.toArray (ar8 16 f1))) }]) (by kernel_rfl) (by kernel_rfl) ⟨(by simp only [Ob.holds, w2]), (by simp only [Ob.holds, w1]), (by simp only [Ob.holds, g1, g2, w1, w2, w3]), (Ob.holds_of_dec (by kernel_rfl)), ((c1 ).gl), (by simp only [Ob.holds, g1, g2, w1, w2, w3]), (Ob.holds_of_dec (by kernel_rfl)), (by simp only [Ob.holds, g1, g2, w1, w2, w3]), (Ob.holds_of_dec (by kernel_rfl)), ((c2 ).gl), ((c3 ).gl), (by simp only [Ob.holds, g1, g2, w1, w2, w3]), (Ob.holds_of_dec (by kernel_rfl)), (by simp only [Ob.holds, w3]), (by simp only [Ob.holds, g1, g2, w1, w2, w3]), (Ob.holds_of_dec (by kernel_rfl)), ((c4 ).gl), ((c5 ).gl), trivial⟩ ?_
  refine AG.fin ([.ex (.agg { toList := ar8 16 f1 })]) Go.Proofs.Tryd.f20 fn20 (.inr ⟨_, rfl⟩) (obs := [Ob.le 16 16]) (by kernel_rfl) ⟨(Ob.holds_of_dec (by kernel_rfl)), trivial⟩ (by kernel_rfl) ⟨(by kernel_rfl), trivial⟩ (by kernel_rfl)
end Go.Proofs.YtfdkdbbigpphcaaDoor.Ab
