/- Proved here: for every key of 16, 24 or 32 bytes and every block AesBack returns true and leaves its arguments as they were (what is enciphered is deciphered to what it was, whichever way comes first), where the two tables of coefficients lie as the program's text lays them; no other condition. -/
import Derived.Test.YtplcboblokgihaaDoorKeyArg
namespace Go.Proofs.YtplcboblokgihaaDoor
open Go.ChangeShapes Go.WideShapes Go.ChangeAt Go.RowKit

theorem aesback_walk (w : World) (hl : Laid w) (zs : List UInt8) (hz : zs.length = 33) (bs : List UInt8) (hb : bs.length = 16) :
    Calls Tryd.prog 5 #[.agg (bcells zs).toArray, .agg (bcells bs).toArray] w fun e w' => e = .returned (.bool true) ∧ Below w.heap.size w w' := by
  rw [zL_of zs hz, bcells_bc bs, hb]
  have hf := lf_byt bs
  have hF := kF_byt (lf zs) (lf zs 32)
  obtain ⟨r1, r2⟩ := zn_rounds (lf zs 32)
  refine aesback_core (zL (lf zs) (lf zs 32)) (bc 16 (lf bs)) (bc 16 (encB (kF (lf zs) (lf zs 32)) (nrnd (zn (lf zs 32))) (lf bs))) (bc 16 (decB (kF (lf zs) (lf zs 32)) (nrnd (zn (lf zs 32))) (lf bs)))
    (by unfold zL; rw [List.length_append, bc_len]; rfl) (bc_len _ _) (toB (zn (lf zs 32)) (lf zs)) (nrnd (zn (lf zs 32))) (kF (lf zs) (lf zs 32)) w
    (fun w' hb => tables_any w' (hl.later hb)) (fun w' hb => awake4_any w' (hl.later hb)) (fun w' => bytes_any _ _ (lf_byt zs) (lf_byt zs 32) w') (fun g w' v ht hv => expand_z _ _ g w' v ht hv)
    (fun w => by rw [eq_bc w _ 16 Tryd.underlying31 _ _ hf hf, eqb_refl])
    (fun q g w' h => encrypt_any q g _ _ _ hF hf w' h.1 h.2 r1 r2) (fun q g w' h => ?_) (fun q g w' h => decrypt_any q g _ _ _ hF hf w' h.1 h.2 r1 r2) (fun q g w' h => ?_)
  · have := decrypt_any q g _ _ _ hF (encB_byt hF hf (nrnd (zn (lf zs 32)))) w' h.1 h.2 r1 r2
    rw [blkV_congr fun i hi => dec_enc hF hf _ i hi] at this
    exact this
  · have := encrypt_any q g _ _ _ hF (decB_byt hF hf (nrnd (zn (lf zs 32)))) w' h.1 h.2 r1 r2
    rw [blkV_congr fun i hi => enc_dec hF hf _ i hi] at this
    exact this
set_option linter.unusedVariables false in
set_option maxRecDepth 100000 in
theorem aesBack_lifted (os : Os) (started : os.Started) (H : Type) (enc : TypeId × Value → H) :
    ReturnsInHanded {} Tryd.checked os 5 .any (fun w args => (Rows.aesBackSpec.pre enc Tryd.prog Tryd.f5 [] false w args ∧ laidMetH Tryd.prog lay2 w) ∧ sizedMet enc Tryd.prog Tryd.f5 (OpenSpec.ofChange Rows.aesBackSpec) false w args)
      (Rows.aesBackSpec.post enc Tryd.prog Tryd.f5 false true false false) := by
  refine returnsInHanded_of_change_and (C := Tryd.checked) (X := fun w _ => laidMetH Tryd.prog lay2 w) (fun _ _ _ hh h => h.of_heap hh) own started (by kernel_rfl) Tryd.func5
    (ChangeSpec.witness_shaped (enc := enc) (C := Tryd.checked) (os := os) (X := fun w _ => laidMetH Tryd.prog lay2 w) false (World.doorLaid Tryd.prog 400 os) #[.agg #[.int .u8 0, .int .u8 0, .int .u8 0, .int .u8 0, .int .u8 0, .int .u8 0, .int .u8 0, .int .u8 0, .int .u8 0, .int .u8 0, .int .u8 0, .int .u8 0, .int .u8 0, .int .u8 0, .int .u8 0, .int .u8 0, .int .u8 0, .int .u8 0, .int .u8 0, .int .u8 0, .int .u8 0, .int .u8 0, .int .u8 0, .int .u8 0, .int .u8 0, .int .u8 0, .int .u8 0, .int .u8 0, .int .u8 0, .int .u8 0, .int .u8 0, .int .u8 0, .int .u8 0], .agg #[.int .u8 0, .int .u8 0, .int .u8 0, .int .u8 0, .int .u8 0, .int .u8 0, .int .u8 0, .int .u8 0, .int .u8 0, .int .u8 0, .int .u8 0, .int .u8 0, .int .u8 0, .int .u8 0, .int .u8 0, .int .u8 0]] 8 rfl (World.shaped_of_RefB (by kernel_rfl) (by kernel_rfl)) (by kernel_rfl) (by kernel_rfl) (by kernel_rfl) (door_met os _)) ?_
  intro W base args ds gs before hval0 hW _ _ hL _
  have hval : ∀ (j : Nat) t v, Tryd.f5.params[j]? = some t → args[j]? = some v → Value.okWide Tryd.prog W .any base t v := hval0
  have hW' := hW
  obtain ⟨p, q, hA0, hV, rfl, hfz, hnd⟩ := hW
  have hA : DataW.TrodAll enc Tryd.prog W 0 (fun _ => true) true Tryd.f5.params.toList args.toList ds p := hA0
  rw [Tryd.params5] at hA hval
  obtain ⟨v0, vs0, d0, ds0, p0, q0, hargs, rfl, rfl, h0, r0⟩ := trodAll_cons hA
  obtain ⟨v1, vs1, d1, ds1, p1, q1, rfl, rfl, rfl, h1, r1⟩ := trodAll_cons r0
  obtain ⟨rfl, rfl, rfl⟩ := trodAll_nil r1
  obtain rfl : args = #[v0, v1] := by cases args; simp_all
  obtain ⟨rfl, rfl⟩ := trodVars_none hV
  have lt0 : ∀ x ∈ p0, x.block < W.heap.size := by obtain ⟨m, hm⟩ := h0; exact DataW.trod_lt m _ _ _ hm
  have lt1 : ∀ x ∈ p1, x.block < W.heap.size := by obtain ⟨m, hm⟩ := h1; exact DataW.trod_lt m _ _ _ hm
  obtain ⟨bs0, hl0, rfl⟩ := key_of_trod (hval 0 43 v0 rfl rfl) h0
  obtain ⟨bs1, hl1, rfl⟩ := arr16_of_trod (hval 1 31 v1 rfl rfl) h1
  clear hA0 hval0
  refine (aesback_walk W (laid_of hL) bs0 hl0 bs1 hl1).mono fun e W' ⟨he, bel⟩ => ?_
  subst he
  exact ⟨_, rfl, _, _, _, [], _, [], hW', trodAll_mk1 (shut_bool Tryd.underlying4 _), (trodAll_cons_mk (Below.trod laidOut (by kernel_rfl) (of_decide_eq_true (by kernel_rfl)) h0 bel lt0) (trodAll_cons_mk (Below.trod laidOut (by kernel_rfl) (of_decide_eq_true (by kernel_rfl)) h1 bel lt1) trodAll_mk0)), rfl, bel.frame _, fun h => by cases h⟩
theorem aesBack_holds : Rows.AesBackSaid :=
  OpenClaim.holds_of_wide 5 Tryd.f5 rfl rfl rfl rfl rfl rfl rfl ⟨rfl, rfl, rfl, rfl, rfl⟩ rfl rfl rfl rfl rfl (by kernel_rfl) Tryd.func5 (by kernel_rfl)
    (of_decide_eq_true (by kernel_rfl)) (by unfold Func.isWrapper; first | (rw [if_pos (by decide +kernel)]; kernel_rfl) | (rw [if_neg (by decide +kernel)]; exact ⟨rfl, rfl⟩))
    (fun os started H enc _ => aesBack_lifted os started H enc)
theorem aesBack_card : Rows.AesBackCardSaid :=
  Claim7.holds_tied_plain_at .later [] [.data, .data] true _ false
    aesBack_holds (fun _ h => by cases h) (by kernel_rfl) (fun _ h => by cases h) aesBack_row_tie rfl ⟨rfl, rfl⟩ (by kernel_rfl) rfl
    (fun f fn hf hfn => by
      obtain rfl : f = 5 := Option.some.inj ((show Tryd.prog.funcNamed "wringer/wringerlaw04.AesBack" = some 5 by kernel_rfl).symm.trans hf) |>.symm
      obtain rfl : fn = Tryd.f5 := (Option.some.inj (Tryd.func5.symm.trans hfn)).symm
      exact ⟨by kernel_rfl, fun j t ht => by
        rw [Tryd.params5] at ht
        have hm : t ∈ [43, 31] := by simpa using Array.mem_of_getElem? ht
        have hall : ([43, 31].all fun u => !Tryd.prog.wantsStandIn u) = true := by kernel_rfl
        exact (show Tryd.prog.wantsStandIn t = false by simpa using List.all_eq_true.1 hall t hm)⟩)
    (by kernel_rfl)
#print axioms aesBack_card

end Go.Proofs.YtplcboblokgihaaDoor
