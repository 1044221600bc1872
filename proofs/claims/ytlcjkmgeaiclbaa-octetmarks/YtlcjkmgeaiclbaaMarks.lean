/- Proved here: for all rows A, B, every mark and every size OctetMarks returns true and leaves its argument as it was (two rows that are marked alike are the same row; padded they begin as they were); no condition. -/
import Derived.Test.YtlcjkmgeaiclbaaMarksEqLo
import Derived.Test.YtlcjkmgeaiclbaaMarksEqHi
import Derived.Test.YtlcjkmgeaiclbaaMarksNeLo
import Derived.Test.YtlcjkmgeaiclbaaMarksNeHi
import Derived.Lib.Strings
namespace Go.Proofs.Ytlcjkmgeaiclbaa
open Go.ChangeShapes Go.WideShapes Go.ChangeAt Go.RowKit

theorem text_ne (xs ys : List UInt8) (h : xs ≠ ys) : ((⟨xs.toArray⟩ : ByteArray).toList == (⟨ys.toArray⟩ : ByteArray).toList) = false := by
  rw [beq_eq_false_iff_ne, Lib.toList_data, Lib.toList_data]; simpa using h
theorem isB_take (w : World) (g L : Nat) (xs ys : List UInt8) (h : IsB w (.slice (some ⟨g, 0, none⟩) (xs ++ ys).length L) (xs ++ ys)) : IsB w (.slice (some ⟨g, 0, none⟩) xs.length L) xs := by
  obtain ⟨h0, a, c, e, h1⟩ := h
  simp only [Value.slice.injEq] at e
  obtain ⟨rfl, _, rfl⟩ := e
  refine ⟨by simp at h0; omega, _, _, rfl, ?_⟩
  by_cases hx : xs.length = 0
  · exact .inl hx
  rcases h1 with h1 | ⟨b, off, e1, hc⟩
  · rw [List.length_append] at h1; omega
  · refine .inr ⟨b, off, e1, fun i hi => ?_⟩
    rw [hc i (by simp; omega)]
    simp [List.getElem?_append_left hi]
theorem marks_walk (w : World) (A B : Value) (m : UInt8) (s : Int) (xs ys : List UInt8) (hA : IsB w A xs) (hB : IsB w B ys) (_hs : -9223372036854775808 ≤ s ∧ s ≤ 9223372036854775807) :
    Calls Try.prog 10 #[.agg #[A, B, .int .u8 (m.toNat : Int), .int .i64 s]] w fun e w' => e = .returned (.bool true) ∧ Below w.heap.size w w' := by
  obtain ⟨a, c, rfl⟩ : ∃ a c, A = .slice a xs.length c := by obtain ⟨_, a, c, e, _⟩ := hA; exact ⟨a, c, e⟩
  obtain ⟨a', c', rfl⟩ : ∃ a c, B = .slice a ys.length c := by obtain ⟨_, a, c, e, _⟩ := hB; exact ⟨a, c, e⟩
  by_cases hf : (decide ((xs.length : Int) ≤ 300) && decide ((ys.length : Int) ≤ 300) && decide (s ≤ 300)) = false
  · exact marks_out a a' _ c _ c' _ s w hf
  have hf' : (decide ((xs.length : Int) ≤ 300) && decide ((ys.length : Int) ≤ 300) && decide (s ≤ 300)) = true := by simpa only [Bool.not_eq_false] using hf
  have hb : (xs.length : Int) ≤ 300 ∧ (ys.length : Int) ≤ 300 ∧ s ≤ 300 := by simp at hf'; omega
  by_cases hm : m = 0
  · subst hm; exact marks_nought a a' _ c _ c' s w hf'
  have hm' : (((m.toNat : Nat) : Int) == 0) = false := by
    rw [beq_eq_false_iff_ne]; intro h; exact hm (UInt8.toNat_inj.1 (by simpa using h))
  have cA : ∀ w', Below w.heap.size w w' → Calls Try.prog 30 #[.slice a xs.length c, .int .u8 (m.toNat : Int), .int .i64 s] w' fun e w'' => ∃ r, e = .returned r ∧ IsB w'' r (xs ++ m :: List.replicate (up (xs.length + 1) s - (xs.length + 1)) 0) ∧ Below w'.heap.size w' w'' := fun w' h =>
    (marked_any _ xs m s w' (hA.later h) (by omega) (by omega)).mono fun e w'' ⟨r, h1, h2, h3⟩ => ⟨r, h1, h2.isB, h3⟩
  have cB : ∀ w', Below w.heap.size w w' → Calls Try.prog 30 #[.slice a' ys.length c', .int .u8 (m.toNat : Int), .int .i64 s] w' fun e w'' => ∃ r, e = .returned r ∧ IsB w'' r (ys ++ m :: List.replicate (up (ys.length + 1) s - (ys.length + 1)) 0) ∧ Below w'.heap.size w' w'' := fun w' h =>
    (marked_any _ ys m s w' (hB.later h) (by omega) (by omega)).mono fun e w'' ⟨r, h1, h2, h3⟩ => ⟨r, h1, h2.isB, h3⟩
  have kB : ∀ (r : Value) (w1 w2 : World), IsB w1 r (xs ++ m :: List.replicate (up (xs.length + 1) s - (xs.length + 1)) 0) → Below w1.heap.size w1 w2 → IsB w2 r (xs ++ m :: List.replicate (up (xs.length + 1) s - (xs.length + 1)) 0) := fun r w1 w2 h1 h2 => h1.later h2
  have hu := up_ge xs.length s
  have hu' := up_le xs.length s
  have cP : ∀ w', Below w.heap.size w w' → Calls Try.prog 29 #[.slice a xs.length c, .int .i64 s] w' fun e w'' => ∃ g, e = .returned (.slice (some ⟨g, 0, none⟩) (up xs.length s) (up xs.length s)) ∧ (∀ w3, Below w''.heap.size w'' w3 → (convert 22 9 (.slice (some ⟨g, 0, none⟩) xs.length (up xs.length s))).run Try.prog w3 = .ok (.string ⟨xs.toArray⟩) w3) ∧ Below w'.heap.size w' w'' := fun w' h =>
    (padded_w _ xs s w' (hA.later h) (by omega) (by omega)).mono fun e w'' ⟨h1, h2⟩ => by
      have ho := own_new w' (xs ++ List.replicate (up xs.length s - xs.length) 0) (up xs.length s) (by simp; omega) (by omega)
      rw [← h2] at ho
      have hi := ho.isB
      have hl : (xs ++ List.replicate (up xs.length s - xs.length) 0).length = up xs.length s := by simp; omega
      refine ⟨w'.heap.size, h1, fun w3 h3 => conv_any w3 _ xs (isB_take w3 _ _ xs (List.replicate (up xs.length s - xs.length) 0) ?_), by rw [h2]; exact below_alloc (Below.refl _ _) _⟩
      rw [hl]; exact hi.later h3
  have fA : ∀ w', Below w.heap.size w w' → (convert 22 9 (.slice a xs.length c)).run Try.prog w' = .ok (.string ⟨xs.toArray⟩) w' := fun w' h => conv_any w' _ xs (hA.later h)
  have fB : ∀ w', Below w.heap.size w w' → (convert 22 9 (.slice a' ys.length c')).run Try.prog w' = .ok (.string ⟨ys.toArray⟩) w' := fun w' h => conv_any w' _ ys (hB.later h)
  have cS : ∀ (r1 r2 : Value) (w' : World), IsB w' r1 (xs ++ m :: List.replicate (up (xs.length + 1) s - (xs.length + 1)) 0) → IsB w' r2 (ys ++ m :: List.replicate (up (ys.length + 1) s - (ys.length + 1)) 0) → ∀ w'', Below w'.heap.size w' w'' → Calls Try.prog 35 #[r1, r2] w'' fun e w3 => e = .returned (.bool (decide (xs = ys))) ∧ Below w''.heap.size w'' w3 := fun r1 r2 w' h1 h2 w'' h3 => by
    have := same_any r1 r2 _ _ w'' (h1.later h3) (h2.later h3)
    have e : decide (xs ++ m :: List.replicate (up (xs.length + 1) s - (xs.length + 1)) 0 = ys ++ m :: List.replicate (up (ys.length + 1) s - (ys.length + 1)) 0) = decide (xs = ys) := by
      by_cases hxy : xs = ys
      · subst hxy; simp
      · rw [decide_eq_false hxy, decide_eq_false]; intro h; exact hxy (marked_alike xs ys m _ _ hm h)
    rw [e] at this
    exact this
  by_cases hxy : xs = ys
  · subst hxy
    rw [decide_eq_true rfl] at cS
    by_cases hs1 : s < 1
    · exact marks_eq_lo a a' _ c _ c' _ _ s w hf' hm' _ _ _ kB cA cB cS cP fA fB (by omega) hs1 (by omega)
    · obtain ⟨t, rfl⟩ := Int.eq_ofNat_of_zero_le (show 0 ≤ s by omega)
      have um := up_mod xs.length t (by omega)
      refine marks_eq_hi a a' _ c _ c' _ _ t w hf' hm' _ _ _ kB cA cB cS cP fA fB (by omega) (by omega) (by omega) ?_ ?_ (by omega)
      · rw [Int.tmod_eq_emod_of_nonneg (Int.natCast_nonneg _), ← Int.natCast_emod, um]; rfl
      · rw [← Int.natCast_emod, um]; rfl
  · rw [decide_eq_false hxy] at cS
    by_cases hs1 : s < 1
    · exact marks_ne_lo a a' _ c _ c' _ _ s w hf' hm' _ _ (text_ne xs ys hxy) _ _ kB cA cB cS cP fA fB (by omega) hs1 (by omega)
    · obtain ⟨t, rfl⟩ := Int.eq_ofNat_of_zero_le (show 0 ≤ s by omega)
      have um := up_mod xs.length t (by omega)
      refine marks_ne_hi a a' _ c _ c' _ _ t w hf' hm' _ _ (text_ne xs ys hxy) _ _ kB cA cB cS cP fA fB (by omega) (by omega) (by omega) ?_ ?_ (by omega)
      · rw [Int.tmod_eq_emod_of_nonneg (Int.natCast_nonneg _), ← Int.natCast_emod, um]; rfl
      · rw [← Int.natCast_emod, um]; rfl
set_option linter.unusedVariables false in
set_option maxRecDepth 100000 in
theorem octetMarks_lifted (os : Os) (started : os.Started) (H : Type) (enc : TypeId × Value → H) :
    ReturnsInHanded {} Try.checked os 10 .any (Rows.octetMarksSpec.pre6 enc Try.prog Try.f10 Rows.octetMarksRow.domain false) (Rows.octetMarksSpec.post enc Try.prog Try.f10 false true false false) := by
  refine returnsInHanded_of_change (C := Try.checked) own started (by kernel_rfl) Try.func10
    (ChangeSpec.witness6 (enc := enc) (C := Try.checked) false ⟨#[], #[.agg #[.slice none 0 0, .slice none 0 0, .int .u8 0, .int .i64 0]], []⟩ 8 (by kernel_rfl) (by kernel_rfl) (by kernel_rfl) (by kernel_rfl)) ?_
  intro W base args ds gs before hval0 hW hcnd _
  have hval : ∀ (j : Nat) t v, Try.f10.params[j]? = some t → args[j]? = some v → Value.okWide Try.prog W .any base t v := hval0
  have hW' := hW
  obtain ⟨p, q, hA0, hV, rfl, hfz, hnd⟩ := hW
  have hA : DataW.TrodAll enc Try.prog W 0 (fun _ => true) true Try.f10.params.toList args.toList ds p := hA0
  rw [Try.params10] at hA hval
  obtain ⟨v0, vs0, d0, ds0, p0, q0, hargs, rfl, rfl, h0, r0⟩ := trodAll_cons hA
  obtain ⟨rfl, rfl, rfl⟩ := trodAll_nil r0
  obtain rfl : args = #[v0] := by cases args; simp_all
  obtain ⟨rfl, rfl⟩ := trodVars_none hV
  have lt0 : ∀ x ∈ p0, x.block < W.heap.size := by obtain ⟨m, hm⟩ := h0; exact DataW.trod_lt m _ _ _ hm
  obtain ⟨A0, B0, m0, s0, as0, bs0, rfl, hra0, hrb0, hrs0⟩ := rows_of_trod (hval 0 47 v0 rfl rfl) h0
  clear hA0 hval0
  refine (marks_walk W A0 B0 m0 s0 as0 bs0 hra0 hrb0 hrs0).mono fun e W' ⟨he, bel⟩ => ?_
  subst he
  exact ⟨_, rfl, _, _, _, [], _, [], hW', trodAll_mk1 (shut_bool Try.underlying4 _), (trodAll_cons_mk (Below.trod laidOut (by kernel_rfl) (of_decide_eq_true (by kernel_rfl)) h0 bel lt0) trodAll_mk0), rfl, bel.frame _, fun h => by cases h⟩

theorem octetMarks_holds : Rows.OctetMarksSaid :=
  OpenClaim.holds_of_wide 10 Try.f10 rfl rfl rfl rfl rfl rfl rfl ⟨rfl, rfl, rfl, rfl, rfl⟩ rfl rfl rfl rfl rfl (by kernel_rfl) Try.func10 (by kernel_rfl)
    (of_decide_eq_true (by kernel_rfl)) (by unfold Func.isWrapper; first | (rw [if_pos (by decide +kernel)]; kernel_rfl) | (rw [if_neg (by decide +kernel)]; exact ⟨rfl, rfl⟩))
    (fun os started H enc _ => octetMarks_lifted os started H enc)
#print axioms octetMarks_holds

end Go.Proofs.Ytlcjkmgeaiclbaa
