/- Proved here: for all bytes a, b OctetXors returns true and leaves its arguments as they were (by exclusive or twice a row is what it was; which comes first does not matter); no condition. -/
import Derived.Test.YtlcjkmgeaiclbaaXor
import Derived.Test.YtlcjkmgeaiclbaaAwake
import Derived.Test.YtlcjkmgeaiclbaaLoad
import Derived.Test.YtlcjkmgeaiclbaaLift
namespace Go.Proofs.Ytlcjkmgeaiclbaa
open Go.ChangeShapes Go.WideShapes Go.ChangeAt Go.RowKit

theorem xors_back (a b : List UInt8) (h : a.length ≤ b.length) : xors (xors a b) b = a := by
  apply List.ext_getElem
  · rw [length_xors, length_xors]; omega
  · intro i h1 h2
    simp [xors, UInt8.xor_assoc]
theorem xors_comm (a b : List UInt8) : xors b a = xors a b := by
  apply List.ext_getElem
  · rw [length_xors, length_xors]; omega
  · intro i h1 h2
    simp only [xors, List.getElem_zipWith]
    exact UInt8.xor_comm _ _
theorem xors_out (u v : Value) (xs ys : List UInt8) (w : World) (hu : IsB w u xs) (hv : IsB w v ys) (h : 300 < xs.length ∨ 300 < ys.length ∨ ys.length < xs.length) :
    Calls Try.prog 9 #[u, v] w fun e w' => e = .returned (.bool true) ∧ Below w.heap.size w w' := by
  obtain ⟨_, a, c, rfl, hr⟩ := hu
  obtain ⟨_, a', c', rfl, hr'⟩ := hv
  clear hr hr'
  by_cases h1 : (300 : Int) < xs.length
  · go_enter Try.func9, Try.ntmps9
    go_wp2
    go_ret
    exact ⟨rfl, Below.refl _ _⟩
  have d1 : decide ((300 : Int) < xs.length) = false := by simpa using h1
  by_cases h2 : (300 : Int) < ys.length
  · go_enter Try.func9, Try.ntmps9
    go_wp2
    go_ret
    exact ⟨rfl, Below.refl _ _⟩
  have d2 : decide ((300 : Int) < ys.length) = false := by simpa using h2
  have h3 : (ys.length : Int) < xs.length := by omega
  clear h h1 h2
  go_enter Try.func9, Try.ntmps9
  go_wp2
  go_ret
  exact ⟨rfl, Below.refl _ _⟩
/-- The last statement's walk, each callee by what it owes. -/
abbrev Owes (w1 : World) (args : Array Value) (S : ByteArray) : Prop :=
  ∀ w', Below w1.heap.size w1 w' → Calls Try.prog 33 args w' fun e w'' => ∃ r, e = .returned r ∧ (convert 22 9 r).run Try.prog w'' = .ok (.string S) w'' ∧ Below w1.heap.size w1 w''
theorem owes (w1 : World) (u v : Value) (xs ys : List UInt8) (hu : IsB w1 u xs) (hv : IsB w1 v ys) (hn : xs.length ≤ 300) (hm : ys.length ≤ 300) : Owes w1 #[u, v] ⟨(xors xs ys).toArray⟩ := fun w' hb =>
  (xor_any u v xs ys w' (hu.later hb) (hv.later hb) (by omega) (by omega)).mono fun e w'' ⟨r, he, ho, hb'⟩ => ⟨r, he, conv_any w'' r _ ho.isB, below_two hb hb'⟩
set_option maxHeartbeats 1600000 in
theorem xors_in (u v : Value) (xs ys : List UInt8) (w : World) (hu : IsB w u xs) (hv : IsB w v ys) (h : xs.length ≤ ys.length) (h' : ys.length ≤ 300) :
    Calls Try.prog 9 #[u, v] w fun e w' => e = .returned (.bool true) ∧ Below w.heap.size w w' := by
  obtain ⟨a, c, eu⟩ : ∃ a c, u = .slice a xs.length c := by obtain ⟨_, a, c, e, _⟩ := hu; exact ⟨a, c, e⟩
  obtain ⟨a', c', ev⟩ : ∃ a c, v = .slice a ys.length c := by obtain ⟨_, a, c, e, _⟩ := hv; exact ⟨a, c, e⟩
  have d1 : decide ((300 : Int) < xs.length) = false := by simp; omega
  have d2 : decide ((300 : Int) < ys.length) = false := by simp; omega
  have d3 : decide ((ys.length : Int) < xs.length) = false := by simp; omega
  have hl := length_xors xs ys
  have c0 := xor_any u v xs ys w hu hv (by omega) (by omega)
  have c1 : ∀ w1 r, Below w.heap.size w w1 → OwnB w.heap.size w1 r (xors xs ys) → Owes w1 #[r, v] ⟨xs.toArray⟩ := fun w1 r hb ho => by
    have := owes w1 r v (xors xs ys) ys ho.isB (hv.later hb) (by omega) (by omega)
    rwa [xors_back xs ys h] at this
  have c2 : ∀ w1, Below w.heap.size w w1 → Owes w1 #[v, u] ⟨(xors xs ys).toArray⟩ := fun w1 hb => by
    have := owes w1 v u ys xs (hv.later hb) (hu.later hb) (by omega) (by omega)
    rwa [xors_comm xs ys] at this
  have f1 : ∀ w', Below w.heap.size w w' → (convert 22 9 u).run Try.prog w' = .ok (.string ⟨xs.toArray⟩) w' := fun w' hb => conv_any w' u xs (hu.later hb)
  have f2 : ∀ w1 r, OwnB w.heap.size w1 r (xors xs ys) → ∀ w', Below w1.heap.size w1 w' → (convert 22 9 r).run Try.prog w' = .ok (.string ⟨(xors xs ys).toArray⟩) w' := fun w1 r ho w' hb => conv_any w' r _ (ho.isB.later hb)
  generalize ByteArray.mk xs.toArray = S1 at c1 f1
  generalize ByteArray.mk (xors xs ys).toArray = S2 at c2 f2
  have C0 := hide c0
  have C1 := hide c1
  have C2 := hide c2
  have F1 := hide f1
  have F2 := hide f2
  clear c0 c1 c2 f1 f2 hu hv hl
  generalize xs.length = n at *
  generalize ys.length = m at *
  subst eu ev
  go_enter Try.func9, Try.ntmps9
  go_wp2_with fail
  refine C0.out.mono ?_
  rintro e w1 ⟨r, rfl, ho, b1⟩
  have k1 := hide (C1.out w1 r b1 ho)
  have k2 := hide (C2.out w1 b1)
  have g1 : ∀ w', Below w1.heap.size w1 w' → (convert 22 9 (.slice a n c)).run Try.prog w' = .ok (.string S1) w' := fun w' hb => F1.out w' (below_two b1 hb)
  have g2 := F2.out w1 r ho
  have g3 := g1 _ (Below.refl _ _).drew
  have g4 := g2 _ (Below.refl _ _).drew
  have b2 := hide b1
  clear ho C0 C1 C2 F1 F2 b1
  go_wp2_with fail
  go_region_with
    (first
      | (go_at_call_of 33 r; refine (k1.out _ ?_).mono ?_; (first | assumption | exact (Below.refl _ _).drew); rintro e w' ⟨r', rfl, hcv, hb⟩)
      | (go_at_call 33; refine (k2.out _ ?_).mono ?_; (first | assumption | exact (Below.refl _ _).drew); rintro e w' ⟨r', rfl, hcv, hb⟩)
      | (go_at_call 19; refine (based (awake_any _) (w0 := w1) ?_).mono ?_; (first | assumption | exact (Below.refl _ _).drew); rintro e w' ⟨rfl, hb⟩))
  all_goals go_wp2
  all_goals go_ret
  all_goals exact ⟨rfl, below_two b2.out (by assumption)⟩
theorem xors_walk (w : World) (u : Value) (xs : List UInt8) (hu : IsB w u xs) (v : Value) (ys : List UInt8) (hv : IsB w v ys) :
    Calls Try.prog 9 #[u, v] w fun e w' => e = .returned (.bool true) ∧ Below w.heap.size w w' := by
  by_cases h : 300 < xs.length ∨ 300 < ys.length ∨ ys.length < xs.length
  · exact xors_out u v xs ys w hu hv h
  · exact xors_in u v xs ys w hu hv (by omega) (by omega)
set_option linter.unusedVariables false in
set_option maxRecDepth 100000 in
theorem octetXors_lifted (os : Os) (started : os.Started) (H : Type) (enc : TypeId × Value → H) :
    ReturnsInHanded {} Try.checked os 9 .any (Rows.octetXorsSpec.pre6 enc Try.prog Try.f9 Rows.octetXorsRow.domain false) (Rows.octetXorsSpec.post enc Try.prog Try.f9 false true false false) := by
  refine returnsInHanded_of_change (C := Try.checked) own started (by kernel_rfl) Try.func9
    (ChangeSpec.witness6 (enc := enc) (C := Try.checked) false ⟨#[], #[.slice none 0 0, .slice none 0 0], []⟩ 8 (by kernel_rfl) (by kernel_rfl) (by kernel_rfl) (by kernel_rfl)) ?_
  intro W base args ds gs before hval0 hW hcnd _
  have hval : ∀ (j : Nat) t v, Try.f9.params[j]? = some t → args[j]? = some v → Value.okWide Try.prog W .any base t v := hval0
  have hW' := hW
  obtain ⟨p, q, hA0, hV, rfl, hfz, hnd⟩ := hW
  have hA : DataW.TrodAll enc Try.prog W 0 (fun _ => true) true Try.f9.params.toList args.toList ds p := hA0
  rw [Try.params9] at hA hval
  obtain ⟨v0, vs0, d0, ds0, p0, q0, hargs, rfl, rfl, h0, r0⟩ := trodAll_cons hA
  obtain ⟨v1, vs1, d1, ds1, p1, q1, rfl, rfl, rfl, h1, r1⟩ := trodAll_cons r0
  obtain ⟨rfl, rfl, rfl⟩ := trodAll_nil r1
  obtain rfl : args = #[v0, v1] := by cases args; simp_all
  obtain ⟨rfl, rfl⟩ := trodVars_none hV
  have lt0 : ∀ x ∈ p0, x.block < W.heap.size := by obtain ⟨m, hm⟩ := h0; exact DataW.trod_lt m _ _ _ hm
  have lt1 : ∀ x ∈ p1, x.block < W.heap.size := by obtain ⟨m, hm⟩ := h1; exact DataW.trod_lt m _ _ _ hm
  obtain ⟨a0, len0, cap0, rfl⟩ := okWide_slice Try.underlying22 (hval 0 22 v0 rfl rfl)
  obtain ⟨bs0, hl0, hb0⟩ := isB_of_trod h0
  obtain ⟨a1, len1, cap1, rfl⟩ := okWide_slice Try.underlying22 (hval 1 22 v1 rfl rfl)
  obtain ⟨bs1, hl1, hb1⟩ := isB_of_trod h1
  clear hA0 hval0
  refine (xors_walk W _ bs0 hb0 _ bs1 hb1).mono fun e W' ⟨he, bel⟩ => ?_
  subst he
  exact ⟨_, rfl, _, _, _, [], _, [], hW', trodAll_mk1 (shut_bool Try.underlying4 _), (trodAll_cons_mk (Below.trod laidOut (by kernel_rfl) (of_decide_eq_true (by kernel_rfl)) h0 bel lt0) (trodAll_cons_mk (Below.trod laidOut (by kernel_rfl) (of_decide_eq_true (by kernel_rfl)) h1 bel lt1) trodAll_mk0)), rfl, bel.frame _, fun h => by cases h⟩

theorem octetXors_holds : Rows.OctetXorsSaid :=
  OpenClaim.holds_of_wide 9 Try.f9 rfl rfl rfl rfl rfl rfl rfl ⟨rfl, rfl, rfl, rfl, rfl⟩ rfl rfl rfl rfl rfl (by kernel_rfl) Try.func9 (by kernel_rfl)
    (of_decide_eq_true (by kernel_rfl)) (by unfold Func.isWrapper; first | (rw [if_pos (by decide +kernel)]; kernel_rfl) | (rw [if_neg (by decide +kernel)]; exact ⟨rfl, rfl⟩))
    (fun os started H enc _ => octetXors_lifted os started H enc)
#print axioms octetXors_holds

end Go.Proofs.Ytlcjkmgeaiclbaa
