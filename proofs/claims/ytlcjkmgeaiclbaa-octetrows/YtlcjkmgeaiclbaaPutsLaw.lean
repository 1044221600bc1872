/- Proved here: for all numbers n, lo, hi OctetPuts returns true and leaves its arguments as they were (the bytes of any number are the reference's); no condition. -/
import Derived.Test.YtlcjkmgeaiclbaaPuts
namespace Go.Proofs.Ytlcjkmgeaiclbaa
open Go.ChangeShapes Go.WideShapes Go.ChangeAt Go.RowKit

theorem isB_take (w : World) (g k cap : Nat) (cur : Array Value) (t : TypeId) (bs : List UInt8) (hg : w.heap[g]? = some (.cells cur t (0, 0))) (ht : cur.toList.take k = bcells bs) (hl : bs.length = k) (hk : k ≤ 1000000) : IsB w (.slice (some ⟨g, 0, none⟩) k cap) bs := by
  refine ⟨by omega, _, cap, by rw [hl], .inr ⟨g, 0, rfl, fun i hi => ?_⟩⟩
  rw [cell_of_row w g _ _ _ _ hg, ← bcells_get bs i hi, ← ht, List.getElem?_take_of_lt (by omega)]
  simp
theorem isB_owns (w : World) (base k : Nat) (v : Value) (bs : List UInt8) (h : w.ownsRow base 5 1 v k (bcells bs)) (hk : k ≤ 1000000) : IsB w v bs := by
  obtain ⟨hl, h⟩ := h
  rw [length_bcells, Nat.mul_one] at hl
  rcases h with ⟨rfl, rfl⟩ | ⟨g, cap, cur, rfl, _, hg, _, _, _, ht⟩
  · exact ⟨by omega, none, 0, by rw [hl], .inl hl⟩
  · rw [Nat.mul_one] at ht
    exact isB_take w g k cap cur _ bs hg ht hl hk
theorem rput_str (N m : Nat) (hN : N < 18446744073709551616) (hm : m ≤ 8) (w : World) :
    Calls Try.prog 23 #[.int .u64 N, .int .i64 m] w fun e w' => ∃ r, e = .returned r ∧ (convert 22 9 r).run Try.prog w' = .ok (.string ⟨(putB N m).toArray⟩) w' ∧ Below w.heap.size w w' :=
  (rput_any N m hN hm w).mono fun _ w' ⟨v, he, ho, hb⟩ => ⟨v, he, conv_any w' v _ (isB_owns w' _ m v _ ho (by omega)), hb⟩
theorem puts_nat (w : World) (n lo hi : Nat) (hn : n < 4294967296) (h1 : lo < 18446744073709551616) (h2 : hi < 18446744073709551616) :
    Calls Try.prog 4 #[.int .u32 n, .int .u64 lo, .int .u64 hi] w fun e w' => e = .returned (.bool true) ∧ Below w.heap.size w w' := by
  have l4 := length_putB n 4
  have l8 := length_putB lo 8
  have lH := length_putB hi 8
  have lC : (putB lo 8 ++ putB hi 8).length = 16 := by rw [List.length_append, length_putB, length_putB]
  have e : bcells (putB lo 8) ++ bcells (putB hi 8) = bcells (putB lo 8 ++ putB hi 8) := by simp [bcells]
  refine puts_core n hn lo hi (bcells (putB n 4)) (bcells (putB lo 8)) (bcells (putB lo 8 ++ putB hi 8)) (bcells (putB lo 8)) (bcells (putB hi 8)) ⟨(putB n 4).toArray⟩ ⟨(putB lo 8).toArray⟩ ⟨(putB lo 8 ++ putB hi 8).toArray⟩
    (by rw [length_bcells, l4]) (by rw [length_bcells, l8]) (by rw [length_bcells, lC]) (by rw [length_bcells, lH]) (hide (allone_b _)) (hide (allone_b _)) (hide (allone_b _)) (hide (bcells_one _)) w
    (hide (putword_any n hn)) (hide (putlong_any lo h1)) (hide (bytes_any lo hi h1 h2)) (hide (rput_any lo 8 h1 (by decide))) (hide (rput_any hi 8 h2 (by decide))) (hide (rput_str n 4 (by omega) (by decide))) (hide (rput_str lo 8 h1 (by decide)))
    (hide fun w g hg => conv_any w _ _ (isB_row w g 4 _ _ l4 (by decide) hg 4)) (hide fun w g hg => conv_any w _ _ (isB_row w g 8 _ _ l8 (by decide) hg 8)) (hide fun w g hg => conv_any w _ _ (isB_row w g 16 _ _ lC (by decide) hg 16))
    (hide fun w g cap cur hg ht => conv_any w _ _ (isB_take w g 16 cap cur _ _ hg (ht.trans e) lC (by decide)))
theorem puts_walk (w : World) (n : Int) (hn : 0 ≤ n ∧ n ≤ 4294967295) (lo : Int) (h1 : 0 ≤ lo ∧ lo ≤ 18446744073709551615) (hi : Int) (h2 : 0 ≤ hi ∧ hi ≤ 18446744073709551615) :
    Calls Try.prog 4 #[.int .u32 n, .int .u64 lo, .int .u64 hi] w fun e w' => e = .returned (.bool true) ∧ Below w.heap.size w w' := by
  obtain ⟨n, rfl⟩ := Int.eq_ofNat_of_zero_le hn.1
  obtain ⟨lo, rfl⟩ := Int.eq_ofNat_of_zero_le h1.1
  obtain ⟨hi, rfl⟩ := Int.eq_ofNat_of_zero_le h2.1
  exact puts_nat w n lo hi (by omega) (by omega) (by omega)

set_option linter.unusedVariables false in
set_option maxRecDepth 100000 in
theorem octetPuts_lifted (os : Os) (started : os.Started) (H : Type) (enc : TypeId × Value → H) :
    ReturnsInHanded {} Try.checked os 4 .any (Rows.octetPutsSpec.pre6 enc Try.prog Try.f4 Rows.octetPutsRow.domain false) (Rows.octetPutsSpec.post enc Try.prog Try.f4 false true false false) := by
  refine returnsInHanded_of_change (C := Try.checked) own started (by kernel_rfl) Try.func4
    (ChangeSpec.witness6 (enc := enc) (C := Try.checked) false ⟨#[], #[.int .u32 0, .int .u64 0, .int .u64 0], []⟩ 8 (by kernel_rfl) (by kernel_rfl) (by kernel_rfl) (by kernel_rfl)) ?_
  intro W base args ds gs before hval0 hW hcnd _
  have hval : ∀ (j : Nat) t v, Try.f4.params[j]? = some t → args[j]? = some v → Value.okWide Try.prog W .any base t v := hval0
  have hW' := hW
  obtain ⟨p, q, hA0, hV, rfl, hfz, hnd⟩ := hW
  have hA : DataW.TrodAll enc Try.prog W 0 (fun _ => true) true Try.f4.params.toList args.toList ds p := hA0
  rw [Try.params4] at hA hval
  obtain ⟨v0, vs0, d0, ds0, p0, q0, hargs, rfl, rfl, h0, r0⟩ := trodAll_cons hA
  obtain ⟨v1, vs1, d1, ds1, p1, q1, rfl, rfl, rfl, h1, r1⟩ := trodAll_cons r0
  obtain ⟨v2, vs2, d2, ds2, p2, q2, rfl, rfl, rfl, h2, r2⟩ := trodAll_cons r1
  obtain ⟨rfl, rfl, rfl⟩ := trodAll_nil r2
  obtain rfl : args = #[v0, v1, v2] := by cases args; simp_all
  obtain ⟨rfl, rfl⟩ := trodVars_none hV
  have lt0 : ∀ x ∈ p0, x.block < W.heap.size := by obtain ⟨m, hm⟩ := h0; exact DataW.trod_lt m _ _ _ hm
  have lt1 : ∀ x ∈ p1, x.block < W.heap.size := by obtain ⟨m, hm⟩ := h1; exact DataW.trod_lt m _ _ _ hm
  have lt2 : ∀ x ∈ p2, x.block < W.heap.size := by obtain ⟨m, hm⟩ := h2; exact DataW.trod_lt m _ _ _ hm
  obtain ⟨n0, rfl, hd0, hp0, wn0⟩ := open_int Try.underlying29 (hval 0 29 v0 rfl rfl) h0
  obtain ⟨n1, rfl, hd1, hp1, wn1⟩ := open_int Try.underlying23 (hval 1 23 v1 rfl rfl) h1
  obtain ⟨n2, rfl, hd2, hp2, wn2⟩ := open_int Try.underlying23 (hval 2 23 v2 rfl rfl) h2
  clear hA0 hval0
  refine (puts_walk W n0 (bounds_u32 wn0) n1 (bounds_u64 wn1) n2 (bounds_u64 wn2)).mono fun e W' ⟨he, bel⟩ => ?_
  subst he
  exact ⟨_, rfl, _, _, _, [], _, [], hW', trodAll_mk1 (shut_bool Try.underlying4 _), (trodAll_cons_mk (Below.trod laidOut (by kernel_rfl) (of_decide_eq_true (by kernel_rfl)) h0 bel lt0) (trodAll_cons_mk (Below.trod laidOut (by kernel_rfl) (of_decide_eq_true (by kernel_rfl)) h1 bel lt1) (trodAll_cons_mk (Below.trod laidOut (by kernel_rfl) (of_decide_eq_true (by kernel_rfl)) h2 bel lt2) trodAll_mk0))), rfl, bel.frame _, fun h => by cases h⟩

theorem octetPuts_holds : Rows.OctetPutsSaid :=
  OpenClaim.holds_of_wide 4 Try.f4 rfl rfl rfl rfl rfl rfl rfl ⟨rfl, rfl, rfl, rfl, rfl⟩ rfl rfl rfl rfl rfl (by kernel_rfl) Try.func4 (by kernel_rfl)
    (of_decide_eq_true (by kernel_rfl)) (by unfold Func.isWrapper; first | (rw [if_pos (by decide +kernel)]; kernel_rfl) | (rw [if_neg (by decide +kernel)]; exact ⟨rfl, rfl⟩))
    (fun os started H enc _ => octetPuts_lifted os started H enc)
#print axioms octetPuts_holds

end Go.Proofs.Ytlcjkmgeaiclbaa
