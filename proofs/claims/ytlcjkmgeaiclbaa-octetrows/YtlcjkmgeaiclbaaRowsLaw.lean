/- Proved here: for all rows OctetRows returns true and leaves its argument as it was (any two rows, put together by exclusive or, held against each other, padded and marked, are the reference's); no condition. -/
import Derived.Test.YtlcjkmgeaiclbaaRowsCore
namespace Go.Proofs.Ytlcjkmgeaiclbaa
open Go.ChangeShapes Go.WideShapes Go.ChangeAt Go.RowKit Go.Joins

theorem text_same (xs ys : List UInt8) : ((⟨xs.toArray⟩ : ByteArray).toList == (⟨ys.toArray⟩ : ByteArray).toList) = decide (xs = ys) := by
  rw [Lib.toList_data, Lib.toList_data]
  by_cases h : xs = ys
  · subst h; simp
  · rw [decide_eq_false h, beq_eq_false_iff_ne]; simpa using h
theorem gives_own {w : World} {f : FuncId} {args : Array Value} {zs : List UInt8} (h : ∀ w', Below w.heap.size w w' → Calls Try.prog f args w' fun e w'' => ∃ r, e = .returned r ∧ OwnB w'.heap.size w'' r zs ∧ Below w'.heap.size w' w'') : Gives w f args ⟨zs.toArray⟩ := fun w' hb =>
  (h w' hb).mono fun _ _ ⟨r, he, ho, hb'⟩ => ⟨r, he, fun w3 h3 => conv_any w3 r zs (ho.isB.later h3), hb'⟩
theorem gives_owns {w : World} {f : FuncId} {args : Array Value} {zs : List UInt8} (k : Nat) (hk : k ≤ 1000000) (h : ∀ w', Below w.heap.size w w' → Calls Try.prog f args w' fun e w'' => ∃ r, e = .returned r ∧ w''.ownsRow w'.heap.size 5 1 r k (bcells zs) ∧ Below w'.heap.size w' w'') : Gives w f args ⟨zs.toArray⟩ := fun w' hb =>
  (h w' hb).mono fun _ w'' ⟨r, he, ho, hb'⟩ => ⟨r, he, fun w3 h3 => conv_any w3 r zs ((isB_owns w'' _ k r zs ho hk).later h3), hb'⟩
theorem rows_walk (w : World) (A B : Value) (m : UInt8) (s : Int) (xs ys : List UInt8) (hA : IsB w A xs) (hB : IsB w B ys) (_hs : -9223372036854775808 ≤ s ∧ s ≤ 9223372036854775807) :
    Calls Try.prog 6 #[.agg #[A, B, .int .u8 (m.toNat : Int), .int .i64 s]] w fun e w' => e = .returned (.bool true) ∧ Below w.heap.size w w' := by
  obtain ⟨a, c, rfl⟩ : ∃ a c, A = .slice a xs.length c := by obtain ⟨_, a, c, e, _⟩ := hA; exact ⟨a, c, e⟩
  obtain ⟨a', c', rfl⟩ : ∃ a c, B = .slice a ys.length c := by obtain ⟨_, a, c, e, _⟩ := hB; exact ⟨a, c, e⟩
  by_cases hf : (decide ((xs.length : Int) ≤ 300) && decide ((ys.length : Int) ≤ 300) && decide (s ≤ 300)) = false
  · exact rows_out a a' _ c _ c' _ s w hf
  have hf' : (decide ((xs.length : Int) ≤ 300) && decide ((ys.length : Int) ≤ 300) && decide (s ≤ 300)) = true := by simpa only [Bool.not_eq_false] using hf
  have hb : (xs.length : Int) ≤ 300 ∧ (ys.length : Int) ≤ 300 ∧ s ≤ 300 := by simp at hf'; omega
  have u1 := up_le xs.length s
  have u2 := up_le (xs.length + 1) s
  refine rows_core a a' _ c _ c' _ s w hf' ⟨xs.toArray⟩ ⟨ys.toArray⟩ ⟨(xs ++ List.replicate (up xs.length s - xs.length) 0).toArray⟩ ⟨(xs ++ m :: List.replicate (up (xs.length + 1) s - (xs.length + 1)) 0).toArray⟩ ⟨(xors xs ys).toArray⟩ (decide (xs = ys)) (text_same xs ys)
    (hide (gives_own fun w' h => padded_any _ xs s w' (hA.later h) (by omega) (by omega)))
    (hide (gives_owns _ ?_ fun w' h => rpad_any _ xs s w' (hA.later h) (by omega) (by omega)))
    (hide (gives_own fun w' h => marked_any _ xs m s w' (hA.later h) (by omega) (by omega)))
    (hide (gives_owns _ ?_ fun w' h => rmark_any _ xs m s w' (hA.later h) (by omega) (by omega)))
    (hide (gives_own fun w' h => xor_any _ _ xs ys w' (hA.later h) (hB.later h) (by omega) (by omega)))
    (hide (gives_owns _ ?_ fun w' h => rxor_any _ _ xs ys w' (hA.later h) (hB.later h) (by omega) (by omega)))
    (hide fun w' h => same_any _ _ xs ys w' (hA.later h) (hB.later h))
    (hide fun w' h => conv_any w' _ xs (hA.later h)) (hide fun w' h => conv_any w' _ ys (hB.later h))
  · omega
  · omega
  · omega
set_option linter.unusedVariables false in
set_option maxRecDepth 100000 in
theorem octetRows_lifted (os : Os) (started : os.Started) (H : Type) (enc : TypeId × Value → H) :
    ReturnsInHanded {} Try.checked os 6 .any (Rows.octetRowsSpec.pre6 enc Try.prog Try.f6 Rows.octetRowsRow.domain false) (Rows.octetRowsSpec.post enc Try.prog Try.f6 false true false false) := by
  refine returnsInHanded_of_change (C := Try.checked) own started (by kernel_rfl) Try.func6
    (ChangeSpec.witness6 (enc := enc) (C := Try.checked) false ⟨#[], #[.agg #[.slice none 0 0, .slice none 0 0, .int .u8 0, .int .i64 0]], []⟩ 8 (by kernel_rfl) (by kernel_rfl) (by kernel_rfl) (by kernel_rfl)) ?_
  intro W base args ds gs before hval0 hW hcnd _
  have hval : ∀ (j : Nat) t v, Try.f6.params[j]? = some t → args[j]? = some v → Value.okWide Try.prog W .any base t v := hval0
  have hW' := hW
  obtain ⟨p, q, hA0, hV, rfl, hfz, hnd⟩ := hW
  have hA : DataW.TrodAll enc Try.prog W 0 (fun _ => true) true Try.f6.params.toList args.toList ds p := hA0
  rw [Try.params6] at hA hval
  obtain ⟨v0, vs0, d0, ds0, p0, q0, hargs, rfl, rfl, h0, r0⟩ := trodAll_cons hA
  obtain ⟨rfl, rfl, rfl⟩ := trodAll_nil r0
  obtain rfl : args = #[v0] := by cases args; simp_all
  obtain ⟨rfl, rfl⟩ := trodVars_none hV
  have lt0 : ∀ x ∈ p0, x.block < W.heap.size := by obtain ⟨m, hm⟩ := h0; exact DataW.trod_lt m _ _ _ hm
  obtain ⟨A0, B0, m0, s0, as0, bs0, rfl, hra0, hrb0, hrs0⟩ := rows_of_trod (hval 0 47 v0 rfl rfl) h0
  clear hA0 hval0
  refine (rows_walk W A0 B0 m0 s0 as0 bs0 hra0 hrb0 hrs0).mono fun e W' ⟨he, bel⟩ => ?_
  subst he
  exact ⟨_, rfl, _, _, _, [], _, [], hW', trodAll_mk1 (shut_bool Try.underlying4 _), (trodAll_cons_mk (Below.trod laidOut (by kernel_rfl) (of_decide_eq_true (by kernel_rfl)) h0 bel lt0) trodAll_mk0), rfl, bel.frame _, fun h => by cases h⟩

theorem octetRows_holds : Rows.OctetRowsSaid :=
  OpenClaim.holds_of_wide 6 Try.f6 rfl rfl rfl rfl rfl rfl rfl ⟨rfl, rfl, rfl, rfl, rfl⟩ rfl rfl rfl rfl rfl (by kernel_rfl) Try.func6 (by kernel_rfl)
    (of_decide_eq_true (by kernel_rfl)) (by unfold Func.isWrapper; first | (rw [if_pos (by decide +kernel)]; kernel_rfl) | (rw [if_neg (by decide +kernel)]; exact ⟨rfl, rfl⟩))
    (fun os started H enc _ => octetRows_lifted os started H enc)
#print axioms octetRows_holds

end Go.Proofs.Ytlcjkmgeaiclbaa
