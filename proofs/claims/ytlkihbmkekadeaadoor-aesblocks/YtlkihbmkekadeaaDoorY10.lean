/- Own: the reference's way back, and its stream (no statement is proved here). -/
import Derived.Test.YtlkihbmkekadeaaDoorY9
import Derived.Test.YtlkihbmkekadeaaDoorT4
import Derived.KernelRfl
namespace Go.Proofs.YtlkihbmkekadeaaDoor.Ab
open Go.Proofs
set_option linter.unusedSimpArgs false
set_option linter.unusedVariables false
set_option maxRecDepth 4000
theorem fn26 : Tryd.prog.funcs[26]? = some Tryd.f26 := by kernel_rfl
/-- The block on its way back. -/
def uI (F b : Nat → Int) (r j : Nat) : Nat → Int := cI (decU (nI F) r (nI b) j)
theorem b8_uI {F b : Nat → Int} (hF : B8 F) (hb : B8 b) (r j : Nat) : B8 (uI F b r j) := b8_cI (decU_byt (byt_nI hF) (byt_nI hb) r j)
theorem uI_zero (F b : Nat → Int) (r : Nat) : unlI b (fun q => F (16 * r + q)) = uI F b r 0 := rfl
theorem uI_succ (F b : Nat → Int) (r j : Nat) : unrI (uI F b r j) (fun q => F (16 * (r - 1 - j) + q)) = uI F b r (j + 1) := by
  unfold unrI uI
  rw [nI_cI]; rfl
theorem uI_dec {F b : Nat → Int} (hF : B8 F) (hb : B8 b) (r : Nat) : (fun i => xor8 (uI F b r (r - 1) i) (F i)) = decI F r b := funext fun i => by
  rw [xor8_eq _ _ (b8_uI hF hb r _ i) (hF i)]
  unfold uI decI
  rw [show (cI (decU (nI F) r (nI b) (r - 1)) i).toNat = decU (nI F) r (nI b) (r - 1) i by unfold cI; simp]
  rfl
theorem rdec_ok {bR : List Value} (hb : bR = bxR) (R : Nat) (hR : R < 1000) (ks : Nat → Int) (hk : B8 ks) (s : Nat → Int) (hs : B8 s) : CallOK Tryd.prog (fun _ => none) 26 [.ex (.agg bR.toArray), .sv 0 0 (R + 2), .ex (.agg (ar8 16 s).toArray)] [(0, .view (ar8 (16 * (R + 2)) ks))] { val := .ex (.agg (ar8 16 (decI ks (R + 1) s)).toArray) } := by
  have hV0 : List.take 16 (List.drop 0 (ar8 (16 * (R + 2)) ks)) = ar8 16 ks := (row16 (R + 2) 0 (by omega) ks).trans (ar8_congr fun i _ => by simp)
  have hBl : bR.length = 512 := by rw [hb]; unfold bxR; rw [List.length_append, bc_len, bc_len]
  have hB : List.take 512 (List.drop 0 bR) = bR := by rw [hb, List.drop_zero]; exact List.take_of_length_le (by rw [← hb, hBl]; exact Nat.le_refl _)
  have hl : (ar8 (16 * (R + 2)) ks).length = 16 * (R + 2) := length_ar8 _ _
  have hV := row16' (R + 2) (R + 1) (by omega) ks
  have cl := rul_ok hb s (fun q => ks (16 * (R + 1) + q)) hs (fun q => hk _)
  rw [uI_zero ks s (R + 1)] at cl
  have eR : IntKind.i64.wrap (((R + 2 : Nat) : Int) - 1) = ((R + 1 : Nat) : Int) := by rw [wrap64_id _ (by omega) (by omega)]; omega
  have eR2 : IntKind.i64.wrap (((R + 2 : Nat) : Int) - 2) = ((R : Nat) : Int) := by rw [wrap64_id _ (by omega) (by omega)]; omega
  refine CallOK.from0 hmix Tryd.f26 1 fn26 (by kernel_rfl) (by kernel_rfl) (fun w ρ h1 h2 => ?_)
  have hB' : List.take 512 (List.drop 0 (Value.cells (Value.agg { toList := bR })).toList) = bR := hB
  have hBl' : (Value.cells (Value.agg { toList := bR })).toList.length = 512 := hBl
  have cg : ∀ j, CallOK Tryd.prog (fun _ => none) 51 [.ex (.agg bR.toArray), .ex (.agg (ar8 16 (uI ks s (R + 1) j)).toArray), .ex (.agg (ar8 16 (fun q => ks (16 * (R - j) + q))).toArray)] [] { val := .ex (.agg (ar8 16 (uI ks s (R + 1) (j + 1))).toArray) } := fun j => by
    have := run_ok hb (uI ks s (R + 1) j) (fun q => ks (16 * (R - j) + q)) (b8_uI hk hs _ j) (fun q => hk _)
    have e := uI_succ ks s (R + 1) j
    rw [Nat.add_sub_cancel] at e
    rwa [e] at this
  refine AG.rk 3 [1, 3, 5, 6] [0, 1, 5, 9] 10 (todo' := [.code (sub (codeOf Tryd.f26) [1, 0]), .code (sub (codeOf Tryd.f26) [1, 1])]) (st' := ⟨mkT 36 [(1, .sv 0 0 (R + 2)), (3, .p 1 0), (5, .p 5 0), (6, .p 9 0)], [(0, .view (ar8 (16 * (R + 2)) ks)), (1, .own (Value.cells (Value.agg { toList := bR })).toList), (5, .own (ar8 16 s)), (9, .own (List.replicate 16 (Value.int .u8 0)))], 10⟩) (by kernel_rfl) (by kernel_rfl) ?_
  refine AG.gk [] [(0, { val := .ex (.agg { toList := bR }) }), (1, { val := .ex (.agg { toList := ar8 16 s }) }), (5, { val := .ex (.int .i64 (↑(R + 1) : Int)) }), (6, { val := .p 0 ((R + 1) * 16) }), (7, { val := .ex (.agg { toList := ar8 16 fun q => ks (16 * (R + 1) + q) }) }), (8, { val := .ex (.agg (List.toArray (ar8 16 (uI ks s (R + 1) 0)))) })] [1, 3, 5, 6] [0, 1, 5, 9] 10 (st' := ⟨mkT 36 [(1, .sv 0 0 (R + 2)), (3, .p 1 0), (5, .p 5 0), (6, .p 9 0)], [(0, .view (ar8 (16 * (R + 2)) ks)), (1, .own (Value.cells (Value.agg { toList := bR })).toList), (5, .own (ar8 16 (uI ks s (R + 1) 0))), (9, .own (List.replicate 16 (Value.int .u8 0)))], 10⟩) (obs := [Ob.eq (.ex (.agg { toList := List.take 512 (List.drop 0 (Value.cells (Value.agg { toList := bR })).toList) })) (.ex (.agg { toList := bR })), Ob.le 512 (List.length (Value.cells (Value.agg { toList := bR })).toList), Ob.eq (.ex (.agg { toList := ar8 16 s })) (.ex (.agg { toList := ar8 16 s })), Ob.le 16 16, Ob.eq (.ex (.int .i64 (IntKind.wrap .i64 ((↑(R + 2) : Int) - 1)))) (.ex (.int .i64 (↑(R + 1) : Int))), Ob.eq (.p 0 (0 + Int.toNat (↑(R + 1) : Int) * 16)) (.p 0 ((R + 1) * 16)), Ob.ix (↑(R + 1) : Int) (R + 2), Ob.eq (.ex (.agg { toList := List.take 16 (List.drop ((R + 1) * 16) (ar8 (16 * (R + 2)) ks)) })) (.ex (.agg { toList := ar8 16 fun q => ks (16 * (R + 1) + q) })), Ob.le ((R + 1) * 16 + 16) (List.length (ar8 (16 * (R + 2)) ks)), Ob.call (fun g => List.lookup g []) 50 [.ex (.agg { toList := bR }), .ex (.agg { toList := ar8 16 s }), .ex (.agg { toList := ar8 16 fun q => ks (16 * (R + 1) + q) })] [] { val := .ex (.agg (List.toArray (ar8 16 (uI ks s (R + 1) 0)))) }]) (by kernel_rfl) (by kernel_rfl) ⟨(by simp only [Ob.holds, hB']), (by (simp only [Ob.holds]; omega)), (by simp only [Ob.holds, eR, Int.toNat_natCast, Nat.zero_add, hV, hB', eR2]), (Ob.holds_of_dec (by kernel_rfl)), (by simp only [Ob.holds, eR]), (by simp only [Ob.holds, eR, Int.toNat_natCast, Nat.zero_add, hV, hB', eR2]), (by (simp only [Ob.holds]; omega)), (by simp only [Ob.holds, hV]), (by (simp only [Ob.holds]; omega)), ((cl ).gl), trivial⟩ ?_
  refine AG.rk 2 [1, 3, 5, 6] [0, 1, 5, 9] 10 (todo' := [.code (sub (codeOf Tryd.f26) [1, 1, 0, 0]), .code (sub (codeOf Tryd.f26) [1, 1, 0, 1]), .code (sub (codeOf Tryd.f26) [1, 1, 1])]) (st' := ⟨mkT 36 [(1, .sv 0 0 (R + 2)), (3, .p 1 0), (5, .p 5 0), (6, .p 9 0)], [(0, .view (ar8 (16 * (R + 2)) ks)), (1, .own (Value.cells (Value.agg { toList := bR })).toList), (5, .own (ar8 16 (uI ks s (R + 1) 0))), (9, .own (List.replicate 16 (Value.int .u8 0)))], 10⟩) (by kernel_rfl) (by kernel_rfl) ?_
  refine AG.gk [] [(2, { val := .ex (.int .i64 (↑R : Int)) })] [1, 3, 5, 6, 7] [0, 1, 5, 9] 10 (st' := ⟨mkT 36 [(1, .sv 0 0 (R + 2)), (3, .p 1 0), (5, .p 5 0), (6, .p 9 0), (7, .ex (.int .i64 (↑R : Int)))], [(0, .view (ar8 (16 * (R + 2)) ks)), (1, .own (Value.cells (Value.agg { toList := bR })).toList), (5, .own (ar8 16 (uI ks s (R + 1) 0))), (9, .own (List.replicate 16 (Value.int .u8 0)))], 10⟩) (obs := [Ob.eq (.ex (.int .i64 (IntKind.wrap .i64 ((↑(R + 2) : Int) - 2)))) (.ex (.int .i64 (↑R : Int)))]) (by kernel_rfl) (by kernel_rfl) ⟨(by simp only [Ob.holds, eR2]), trivial⟩ ?_
  refine AG.rk 1 [1, 3, 5, 6, 7] [0, 1, 5, 9] 10 (todo' := [.code (sub (codeOf Tryd.f26) [1, 1, 0, 1, 0]), .inBlock 0, .code (sub (codeOf Tryd.f26) [1, 1, 1])]) (st' := ⟨mkT 36 [(1, .sv 0 0 (R + 2)), (3, .p 1 0), (5, .p 5 0), (6, .p 9 0), (7, .ex (.int .i64 (↑R : Int)))], [(0, .view (ar8 (16 * (R + 2)) ks)), (1, .own (Value.cells (Value.agg { toList := bR })).toList), (5, .own (ar8 16 (uI ks s (R + 1) 0))), (9, .own (List.replicate 16 (Value.int .u8 0)))], 10⟩) (by kernel_rfl) (by kernel_rfl) ?_
  refine AG.rk 1 [1, 3, 5, 6, 7] [0, 1, 5, 9] 10 (todo' := [.code (sub (codeOf Tryd.f26) [1, 1, 0, 1, 0, 0]), .inLoop (sub (codeOf Tryd.f26) [1, 1, 0, 1, 0, 0]), .inBlock 0, .code (sub (codeOf Tryd.f26) [1, 1, 1])]) (st' := ⟨mkT 36 [(1, .sv 0 0 (R + 2)), (3, .p 1 0), (5, .p 5 0), (6, .p 9 0), (7, .ex (.int .i64 (↑R : Int)))], [(0, .view (ar8 (16 * (R + 2)) ks)), (1, .own (Value.cells (Value.agg { toList := bR })).toList), (5, .own (ar8 16 (uI ks s (R + 1) 0))), (9, .own (List.replicate 16 (Value.int .u8 0)))], 10⟩) (by kernel_rfl) (by kernel_rfl) ?_
  refine AG.indE (α := {x : Nat // x ≤ R}) (fun x => R - x.1)
    (fun x => ⟨mkT 36 [(1, .sv 0 0 (R + 2)), (3, .p 1 0), (5, .p 5 0), (6, .p 9 0), (7, .ex (.int .i64 ((R - x.1 : Nat) : Int)))], [(0, .view (ar8 (16 * (R + 2)) ks)), (1, .own bR), (5, .own (ar8 16 (uI ks s (R + 1) x.1))), (9, .own (List.replicate 16 (.int .u8 0)))], 10⟩) ⟨0, by omega⟩ (by kernel_rfl) ?_
  rintro ⟨j, hj⟩ ih
  simp only at hj ih ⊢
  refine AG.rk 3 [1, 3, 5, 6, 7, 21] [0, 1, 5, 9] 10 (todo' := [.code (sub (codeOf Tryd.f26) [1, 1, 0, 1, 0, 0, 0, 1]), .code (sub (codeOf Tryd.f26) [1, 1, 0, 1, 0, 0, 1]), .inLoop (sub (codeOf Tryd.f26) [1, 1, 0, 1, 0, 0]), .inBlock 0, .code (sub (codeOf Tryd.f26) [1, 1, 1])]) (st' := ⟨mkT 36 [(1, .sv 0 0 (R + 2)), (3, .p 1 0), (5, .p 5 0), (6, .p 9 0), (7, .ex (.int .i64 (↑(R - j) : Int))), (21, .ex (.bool (decide ((↑(R - j) : Int) ≥ 1))))], [(0, .view (ar8 (16 * (R + 2)) ks)), (1, .own bR), (5, .own (ar8 16 (uI ks s (R + 1) j))), (9, .own (List.replicate 16 (Value.int .u8 0)))], 10⟩) (by kernel_rfl) (by kernel_rfl) ?_
  refine AG.cond (b := decide ((↑(R - j) : Int) ≥ 1)) (by kernel_rfl) (fun hc => ?_) (fun hc => ?_)
  · have hlt : j < R := by simp at hc; omega
    clear hc
    have v5 : IntKind.i64.wrap (((R - j : Nat) : Int) - 1) = ((R - (j + 1) : Nat) : Int) := by rw [wrap64_id _ (by omega) (by omega)]; omega
    have hVj := row16' (R + 2) (R - j) (by omega) ks
    have cr := cg j
    have ih1 := ih ⟨j + 1, hlt⟩ (by simp only; omega)
    simp only at ih1
    have hle : R - j < R + 2 := by omega
    generalize hk' : R - j = k at *
    generalize R - (j + 1) = k' at *
    refine AG.rk 3 [1, 3, 5, 6, 7] [0, 1, 5, 9] 10 (todo' := [.code (sub (codeOf Tryd.f26) [1, 1, 0, 1, 0, 0, 1, 0, 0]), .inBlock 1, .code (sub (codeOf Tryd.f26) [1, 1, 0, 1, 0, 0, 1, 1]), .inLoop (sub (codeOf Tryd.f26) [1, 1, 0, 1, 0, 0]), .inBlock 0, .code (sub (codeOf Tryd.f26) [1, 1, 1])]) (st' := ⟨mkT 36 [(1, .sv 0 0 (R + 2)), (3, .p 1 0), (5, .p 5 0), (6, .p 9 0), (7, .ex (.int .i64 (↑k : Int)))], [(0, .view (ar8 (16 * (R + 2)) ks)), (1, .own bR), (5, .own (ar8 16 (uI ks s (R + 1) j))), (9, .own (List.replicate 16 (Value.int .u8 0)))], 10⟩) (by kernel_rfl) (by kernel_rfl) ?_
    refine AG.gk [] [(0, { val := .ex (.agg { toList := bR }) }), (1, { val := .ex (.agg { toList := ar8 16 (uI ks s (R + 1) j) }) }), (4, { val := .p 0 (k * 16) }), (5, { val := .ex (.agg { toList := ar8 16 fun q => ks (16 * k + q) }) }), (6, { val := .ex (.agg (List.toArray (ar8 16 (uI ks s (R + 1) (j + 1))))) })] [1, 3, 5, 6, 7] [0, 1, 5, 9] 10 (st' := ⟨mkT 36 [(1, .sv 0 0 (R + 2)), (3, .p 1 0), (5, .p 5 0), (6, .p 9 0), (7, .ex (.int .i64 (↑k : Int)))], [(0, .view (ar8 (16 * (R + 2)) ks)), (1, .own bR), (5, .own (ar8 16 (uI ks s (R + 1) (j + 1)))), (9, .own (List.replicate 16 (Value.int .u8 0)))], 10⟩) (obs := [Ob.eq (.ex (.agg { toList := List.take 512 (List.drop 0 bR) })) (.ex (.agg { toList := bR })), Ob.le 512 (List.length bR), Ob.eq (.ex (.agg { toList := ar8 16 (uI ks s (R + 1) j) })) (.ex (.agg { toList := ar8 16 (uI ks s (R + 1) j) })), Ob.le 16 16, Ob.eq (.p 0 (0 + Int.toNat (↑k : Int) * 16)) (.p 0 (k * 16)), Ob.ix (↑k : Int) (R + 2), Ob.eq (.ex (.agg { toList := List.take 16 (List.drop (k * 16) (ar8 (16 * (R + 2)) ks)) })) (.ex (.agg { toList := ar8 16 fun q => ks (16 * k + q) })), Ob.le (k * 16 + 16) (List.length (ar8 (16 * (R + 2)) ks)), Ob.call (fun g => List.lookup g []) 51 [.ex (.agg { toList := bR }), .ex (.agg { toList := ar8 16 (uI ks s (R + 1) j) }), .ex (.agg { toList := ar8 16 fun q => ks (16 * k + q) })] [] { val := .ex (.agg (List.toArray (ar8 16 (uI ks s (R + 1) (j + 1))))) }]) (by kernel_rfl) (by kernel_rfl) ⟨(by simp only [Ob.holds, hB]), (by (simp only [Ob.holds]; omega)), (by simp only [Ob.holds, Int.toNat_natCast, Nat.zero_add, hVj, hB]), (Ob.holds_of_dec (by kernel_rfl)), (by simp only [Ob.holds, Int.toNat_natCast, Nat.zero_add, hVj, hB]), (by (simp only [Ob.holds]; omega)), (by simp only [Ob.holds, hVj]), (by (simp only [Ob.holds]; omega)), ((cr ).gl), trivial⟩ ?_
    refine AG.rk 3 [1, 3, 5, 6, 7] [0, 1, 5, 9] 10 (todo' := [.code (sub (codeOf Tryd.f26) [1, 1, 0, 1, 0, 0]), .inLoop (sub (codeOf Tryd.f26) [1, 1, 0, 1, 0, 0]), .inBlock 0, .code (sub (codeOf Tryd.f26) [1, 1, 1])]) (st' := ⟨mkT 36 [(1, .sv 0 0 (R + 2)), (3, .p 1 0), (5, .p 5 0), (6, .p 9 0), (7, .ex (.int .i64 (IntKind.wrap .i64 ((↑k : Int) - 1))))], [(0, .view (ar8 (16 * (R + 2)) ks)), (1, .own bR), (5, .own (ar8 16 (uI ks s (R + 1) (j + 1)))), (9, .own (List.replicate 16 (Value.int .u8 0)))], 10⟩) (by kernel_rfl) (by kernel_rfl) ?_
    rewrite [v5]
    exact ih1
  · obtain rfl : j = R := by simp at hc; omega
    clear hc ih
    have c0 := r16_ok (uI ks s (j + 1) j) ks (b8_uI hk hs _ _) hk
    have eD : (fun i => xor8 (uI ks s (j + 1) j i) (ks i)) = decI ks (j + 1) s := uI_dec hk hs (j + 1)
    rw [eD] at c0
    refine AG.rk 2 [1, 5, 6] [0, 5, 9] 10 (todo' := [.code (sub (codeOf Tryd.f26) [1, 1, 1, 0]), .code (sub (codeOf Tryd.f26) [1, 1, 1, 1])]) (st' := ⟨mkT 36 [(1, .sv 0 0 (j + 2)), (5, .p 5 0), (6, .p 9 0)], [(0, .view (ar8 (16 * (j + 2)) ks)), (5, .own (ar8 16 (uI ks s (j + 1) j))), (9, .own (List.replicate 16 (Value.int .u8 0)))], 10⟩) (by kernel_rfl) (by kernel_rfl) ?_
    refine AG.gk [2] [(0, { val := .ex (.agg { toList := ar8 16 (uI ks s (j + 1) j) }) }), (3, { val := .ex (.agg { toList := ar8 16 ks }) }), (4, { val := .ex (.agg (List.toArray (ar8 16 (decI ks (j + 1) s)))) })] [6] [0, 9] 10 (st' := ⟨mkT 36 [(6, .p 9 0)], [(0, .view (ar8 (16 * (j + 2)) ks)), (9, .own (ar8 16 (decI ks (j + 1) s)))], 10⟩) (obs := [Ob.eq (.ex (.agg { toList := ar8 16 (uI ks s (j + 1) j) })) (.ex (.agg { toList := ar8 16 (uI ks s (j + 1) j) })), Ob.le 16 16, Ob.ix 0 (j + 2), Ob.eq (.ex (.agg { toList := List.take 16 (List.drop 0 (ar8 (16 * (j + 2)) ks)) })) (.ex (.agg { toList := ar8 16 ks })), Ob.le 16 (List.length (ar8 (16 * (j + 2)) ks)), Ob.call (fun g => List.lookup g []) 47 [.ex (.agg { toList := ar8 16 (uI ks s (j + 1) j) }), .ex (.agg { toList := ar8 16 ks })] [] { val := .ex (.agg (List.toArray (ar8 16 (decI ks (j + 1) s)))) }]) (by kernel_rfl) (by kernel_rfl) ⟨(by simp only [Ob.holds, hV0]), (Ob.holds_of_dec (by kernel_rfl)), (by (simp only [Ob.holds]; omega)), (by simp only [Ob.holds, hV0]), (by (simp only [Ob.holds]; omega)), ((c0 ).gl), trivial⟩ ?_
    refine AG.fin ([.ex (.agg { toList := ar8 16 (decI ks (j + 1) s) })]) Go.Proofs.Tryd.f26 fn26 (.inr ⟨_, rfl⟩) (obs := [Ob.le 16 16]) (by kernel_rfl) ⟨(Ob.holds_of_dec (by kernel_rfl)), trivial⟩ (by kernel_rfl) trivial (by kernel_rfl)
end Go.Proofs.YtlkihbmkekadeaaDoor.Ab
