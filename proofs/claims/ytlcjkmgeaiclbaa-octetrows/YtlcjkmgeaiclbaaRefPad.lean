/- Own: the contracts of the reference's Padded and Marked (no statement is proved here). -/
import Derived.Test.YtlcjkmgeaiclbaaMark
import Derived.Test.YtlcjkmgeaiclbaaPutsLaw
import Derived.Maps.AppendAt
namespace Go.Proofs.Ytlcjkmgeaiclbaa
open Go.ChangeShapes Go.WideShapes Go.ChangeAt Go.RowKit

theorem wpList_append_run {P : Program} {ops : Array Oper} {rest : List Oper} {o : Oper} {a : Act} {w : World} {Q : Exit → Act → World → Prop} (hgd : o.guard = none) (s x : Operand) (t : TypeId)
    (ho : o.op = .call { callee := .builtin .append, args := #[s, x], argTypes := #[t, t] }) (u v v' : Value) (w' : World) (hs : a.eval s = u) (hx : a.eval x = v)
    (hr : (Builtin.append_ #[t, t] o.type #[u, v]).run P w = .ok v' w') (h : wpList P ops Q rest (a.put o.dst v') w') : wpList P ops Q (o :: rest) a w := by
  refine wpList_plain hgd fun K hK => ?_
  unfold Oper.wp execOp
  simp only [ho, resolve, invoke, builtin, Sem.run_bind, Sem.run_pure, Result.andThen_ok, List.map_toArray, List.map_cons, List.map_nil, hs, hx, hr]
  exact hK _ _ h
theorem start_row (w : World) (v : Value) (bs : List UInt8) (hv : IsB w v bs) (hn : bs.length ≤ 400) :
    ∃ v' w', (Builtin.append_ #[22, 22] 22 #[.slice (some ⟨w.heap.size, 0, none⟩) 0 0, v]).run Try.prog (w.alloc (.cells #[] 5)) = .ok v' w' ∧ w'.ownsRow w.heap.size 5 1 v' bs.length (bcells bs) ∧ Below w.heap.size w w' := by
  obtain ⟨i0, hi0, hz0, hz1, hz2⟩ : ∃ i, Try.prog.info? 5 = some i ∧ i.zero = some (.int .u8 0) ∧ i.size = 1 ∧ i.bytes = 1 := ⟨_, rfl, rfl, rfl, rfl⟩
  have own0 : (w.alloc (.cells #[] 5)).ownsRow w.heap.size 5 1 (.slice (some ⟨w.heap.size, 0, none⟩) 0 0) 0 [] :=
    ⟨rfl, .inr ⟨w.heap.size, 0, #[], rfl, Nat.le_refl _, heap_alloc_new _ _, Nat.le_refl _, by decide, rfl, rfl⟩⟩
  obtain ⟨_, a, c, rfl, hr⟩ := hv
  rcases a with _ | ad
  · have h0 : bs.length = 0 := by rcases hr with h | ⟨_, _, h, _⟩; exact h; cases h
    obtain rfl : bs = [] := List.eq_nil_of_length_eq_zero h0
    refine ⟨.slice (some ⟨w.heap.size, 0, none⟩) 0 0, w.alloc (.cells #[] 5), ?_, own0, below_alloc (Below.refl _ _) _⟩
    rfl
  · obtain ⟨v', w', h1, h2, h3, _⟩ := run_append_own (P := Try.prog) (w.alloc (.cells #[] 5)) w.heap.size 22 22 5 i0 (.int .u8 0) 1 1 Try.underlying22 hi0 hz0 hz1 hz2 rfl (by decide) _ 0 [] own0 ad bs.length c (bcells bs) (by rw [length_bcells, Nat.mul_one])
      (fun j u hj => by
        have hlt : j < bs.length := by rw [← length_bcells]; exact (List.getElem?_eq_some_iff.1 hj).1
        rcases hr with h | ⟨b, off, e, hc⟩
        · omega
        · cases e
          rw [addr_add, ← hj, bcells_get _ j hlt]
          exact Go.Proofs.Ytlcjkmgeaiclbaa.later (below_alloc (Below.refl _ _) _) (hc j hlt))
      (bcells_one bs) (by unfold maxLen; omega) (by omega) (by simp)
    refine ⟨v', w', h1, by simpa using h2, (below_alloc (Below.refl _ _) _).grown h3 (by simp) (fun j hj => ?_)⟩
    have := (own0.lt j hj).1
    exact this
/-- How many noughts stand behind. -/
theorem more_mod (n t k : Nat) (ht : 1 ≤ t) (hk : k < up n t - n) : (n + k) % t ≠ 0 := by
  unfold up at hk
  rw [if_neg (by omega), Int.toNat_natCast] at hk
  have h := Nat.mod_lt n (show 0 < t by omega)
  have e := Nat.div_add_mod n t
  by_cases h0 : n % t = 0
  · rw [h0, Nat.sub_zero, Nat.mod_self] at hk; omega
  · rw [Nat.mod_eq_of_lt (show t - n % t < t by omega)] at hk
    have e2 : n + k = (n % t + k) + t * (n / t) := by omega
    rw [e2, Nat.add_mul_mod_self_left, Nat.mod_eq_of_lt (by omega)]; omega
theorem all_mod (n t : Nat) (ht : 1 ≤ t) : (n + (up n t - n)) % t = 0 := by
  rw [Nat.add_sub_cancel' (up_ge n t)]
  unfold up
  rw [if_neg (by omega), Int.toNat_natCast]
  have h := Nat.mod_lt n (show 0 < t by omega)
  have e := Nat.div_add_mod n t
  by_cases h0 : n % t = 0
  · rw [h0, Nat.sub_zero, Nat.mod_self, Nat.add_zero, h0]
  · rw [Nat.mod_eq_of_lt (show t - n % t < t by omega)]
    have : n + (t - n % t) = t * (n / t) + t := by omega
    rw [this]; simp
theorem noughts_succ (bs : List UInt8) (k : Nat) : bcells (bs ++ List.replicate (k + 1) 0) = bcells (bs ++ List.replicate k 0) ++ [.int .u8 0] := by
  rw [List.replicate_succ', ← List.append_assoc]; simp [bcells]
theorem owns_less {w : World} {b b' e k : Nat} {v : Value} {xs : List Value} (h : w.ownsRow b e 1 v k xs) (hb : b' ≤ b) : w.ownsRow b' e 1 v k xs := by
  refine ⟨h.1, ?_⟩
  rcases h.2 with h | ⟨g, cap, cur, h1, h2, h3⟩
  · exact .inl h
  · exact .inr ⟨g, cap, cur, h1, Nat.le_trans hb h2, h3⟩
def lenV : Value → Nat
  | .slice _ n _ => n
  | _ => 0
theorem slice_of_owns {w : World} {base e k : Nat} {v : Value} {xs : List Value} (h : w.ownsRow base e 1 v k xs) : ∃ a cap, v = .slice a k cap := by
  rcases h.2 with ⟨rfl, rfl⟩ | ⟨g, cap, _, rfl, _⟩
  · exact ⟨_, _, rfl⟩
  · exact ⟨_, _, rfl⟩
set_option maxHeartbeats 800000 in
theorem rpad_any (v : Value) (bs : List UInt8) (s : Int) (w : World) (hv : IsB w v bs) (hn : bs.length ≤ 400) (hs : s ≤ 400) :
    Calls Try.prog 31 #[v, .int .i64 s] w fun e w' => ∃ r, e = .returned r ∧ w'.ownsRow w.heap.size 5 1 r (bs.length + (up bs.length s - bs.length)) (bcells (bs ++ List.replicate (up bs.length s - bs.length) 0)) ∧ Below w.heap.size w w' := by
  obtain ⟨i0, hi0, hz0, hz1, hz2⟩ : ∃ i, Try.prog.info? 5 = some i ∧ i.zero = some (.int .u8 0) ∧ i.size = 1 ∧ i.bytes = 1 := ⟨_, rfl, rfl, rfl, rfl⟩
  have HI := hide hi0
  clear hi0
  obtain ⟨r0, w0, hap, own0, b0⟩ := start_row w v bs hv hn
  have hD : up bs.length s - bs.length ≤ 400 := by have := up_le bs.length s; omega
  obtain ⟨n, hnn⟩ : ∃ n, n = bs.length := ⟨_, rfl⟩
  have hmore : Hid (∀ k, 1 ≤ s → k < up n s - n → (n + k) % s.toNat ≠ 0) := fun k h1 hk => by
    have := more_mod n s.toNat k (by omega) (by rw [Int.toNat_of_nonneg (by omega)]; exact hk)
    exact this
  have hall : Hid (1 ≤ s → (n + (up n s - n)) % s.toNat = 0) := fun h1 => by
    have := all_mod n s.toNat (by omega)
    rw [Int.toNat_of_nonneg (by omega)] at this; exact this
  have hless : Hid (s < 1 → up n s - n = 0) := fun h => by unfold up; rw [if_pos h]; omega
  rw [← hnn] at own0 hD hn ⊢
  obtain ⟨D, hDD⟩ : ∃ D, D = up n s - n := ⟨_, rfl⟩
  rw [← hDD] at hmore hall hless hD ⊢
  have O0 := hide own0
  have B0 := hide b0
  clear own0 b0 hnn hDD hv
  have HAP := hide hap
  clear hap
  go_enter Try.func31, Try.ntmps31
  go_wp2_with (first
    | (at_builtin; refine wpList_append_run rfl _ _ 22 rfl _ _ r0 w0 rfl rfl HAP.out ?_))
  go_loopw [5] (fun r wr => ∃ (k : Nat) (a : Option Addr) (cap L : Nat), k ≤ D ∧ L = n + k ∧ r = .slice a L cap ∧ Hid (wr.ownsRow w.heap.size 5 1 r L (bcells (bs ++ List.replicate k 0)) ∧ Below w.heap.size w wr)) (fun r _ => n + D - lenV r)
  case atStart =>
    obtain ⟨a, cap, e⟩ := slice_of_owns O0.out
    exact ⟨0, a, cap, n, Nat.zero_le _, rfl, e, by simpa using O0.out, B0.out⟩
  case round =>
    rename_i wr
    obtain ⟨k, a, cap, L, hk, hL, rfl, HR⟩ := hrel
    have HL := hide hL
    have hL2 : L ≤ 800 := by omega
    clear hL
    by_cases h1 : 1 ≤ s
    · obtain ⟨t, rfl⟩ := Int.eq_ofNat_of_zero_le (show 0 ≤ s by omega)
      have hpos : (0 : Int) < t := by omega
      have ht0 : ¬ t = 0 := by omega
      have hT : ((L : Nat) : Int).tmod (t : Int) = ((L % t : Nat) : Int) := by rw [← Int.ofNat_tmod]
      by_cases hlt : k < D
      · have hne : ¬ L % t = 0 := by
          have := hmore.out k h1 hlt
          rw [HL.out]; simpa using this
        obtain ⟨q, hq⟩ : ∃ q, q = L % t := ⟨_, rfl⟩
        rw [← hq] at hT hne
        have hq0 : ((q : Int) != 0) = true := by simp; omega
        clear hq h1 hne
        go_wp2_with (first
          | (at_builtin; refine wpList_append_own _ rfl _ _ 22 rfl w.heap.size 5 i0 (.int .u8 0) 1 1 Try.underlying22 HI.out hz0 hz1 hz2 rfl (by decide) _ _ _ rfl (HR.out.1.alloc _) ⟨wr.heap.size, 0, none⟩ 1 1 [.int .u8 0] rfl rfl (cell_one_new _ _ _) ?c2 ?c3 ?c4 ?c5 ?_))
        case c2 => intro u hu; simp at hu; subst hu; rfl
        case c3 => unfold maxLen; omega
        case c4 => omega
        case c5 => have := HR.out.2.size; simp; omega
        · intro v' w1 hown' hgrow _
          obtain ⟨a', cap', e'⟩ := slice_of_owns hown'
          subst e'
          have H' := hide hown'
          have G' := hide hgrow
          clear hown' hgrow
          go_wp2
          go_roundw
          case rel =>
            refine ⟨k + 1, a', cap', L + 1, by omega, by have := HL.out; omega, rfl, ?_⟩
            show _ ∧ _
            rw [noughts_succ]
            refine ⟨H'.out, ?_⟩
            have hb := HR.out.2
            exact (below_alloc hb _).grown G'.out (by simp; have := hb.size; omega) (fun j hj => (HR.out.1.lt j hj).1)
          case measure => have := HL.out; simp [lenV]; omega
      · have he : L % t = 0 := by
          have e : k = D := by omega
          have := hall.out h1
          rw [HL.out, e]; simpa using this
        rw [he] at hT
        clear h1 he
        obtain rfl : k = D := by omega
        clear hlt
        go_wp2
        go_ret
        have := HL.out
        subst this
        exact ⟨_, rfl, HR.out.1, HR.out.2⟩
    · have hpos : decide ((0 : Int) < s) = false := by simp; omega
      have hD0 := hless.out (by omega)
      obtain rfl : k = D := by omega
      clear h1 hD0
      go_wp2
      go_ret
      have := HL.out
      subst this
      exact ⟨_, rfl, HR.out.1, HR.out.2⟩
set_option maxHeartbeats 800000 in
theorem rmark_any (v : Value) (bs : List UInt8) (m : UInt8) (s : Int) (w : World) (hv : IsB w v bs) (hn : bs.length ≤ 300) (hs : s ≤ 400) :
    Calls Try.prog 32 #[v, .int .u8 (m.toNat : Int), .int .i64 s] w fun e w' => ∃ r, e = .returned r ∧ w'.ownsRow w.heap.size 5 1 r (bs.length + 1 + (up (bs.length + 1) s - (bs.length + 1))) (bcells (bs ++ m :: List.replicate (up (bs.length + 1) s - (bs.length + 1)) 0)) ∧ Below w.heap.size w w' := by
  obtain ⟨i0, hi0, hz0, hz1, hz2⟩ : ∃ i, Try.prog.info? 5 = some i ∧ i.zero = some (.int .u8 0) ∧ i.size = 1 ∧ i.bytes = 1 := ⟨_, rfl, rfl, rfl, rfl⟩
  have HI := hide hi0
  clear hi0
  obtain ⟨r0, w0, hap, own0, b0⟩ := start_row w v bs hv (by omega)
  have HAP := hide hap
  have O0 := hide own0
  have B0 := hide b0
  clear hap own0 b0 hv
  have cP : Hid (∀ (r : Value) (w1 : World), w1.ownsRow w.heap.size 5 1 r (bs.length + 1) (bcells bs ++ [.int .u8 (m.toNat : Int)]) → Below w.heap.size w w1 → Calls Try.prog 31 #[r, .int .i64 s] w1 fun e w' => ∃ r, e = .returned r ∧ w'.ownsRow w.heap.size 5 1 r (bs.length + 1 + (up (bs.length + 1) s - (bs.length + 1))) (bcells (bs ++ m :: List.replicate (up (bs.length + 1) s - (bs.length + 1)) 0)) ∧ Below w.heap.size w w') := fun r w1 ho hb => by
    have e : bcells bs ++ [.int .u8 (m.toNat : Int)] = bcells (bs ++ [m]) := by simp [bcells]
    rw [e] at ho
    have hB := isB_owns w1 _ _ r _ ho (by omega)
    have hl : (bs ++ [m]).length = bs.length + 1 := by simp
    have h := rpad_any r (bs ++ [m]) s w1 hB (by omega) hs
    rw [hl, List.append_assoc] at h
    refine h.mono fun e w' ⟨r', he, ho', hb'⟩ => ⟨r', he, owns_less ho' hb.size, below_two hb hb'⟩
  obtain ⟨n, hnn⟩ : ∃ n, n = bs.length := ⟨_, rfl⟩
  rw [← hnn] at O0 cP hn ⊢
  generalize bcells (bs ++ m :: List.replicate (up (n + 1) s - (n + 1)) 0) = Y at cP ⊢
  generalize n + 1 + (up (n + 1) s - (n + 1)) = N at cP ⊢
  generalize bcells bs = X at O0 cP
  generalize (m.toNat : Int) = M at *
  clear hnn
  go_enter Try.func32, Try.ntmps32
  go_wp2_with (first
    | (at_builtin; refine wpList_append_run rfl _ _ 22 rfl _ _ r0 w0 rfl rfl HAP.out ?_)
    | (at_builtin; refine wpList_append_own _ rfl _ _ 22 rfl w.heap.size 5 i0 (.int .u8 0) 1 1 Try.underlying22 HI.out hz0 hz1 hz2 rfl (by decide) _ _ _ rfl (O0.out.alloc _) ⟨w0.heap.size, 0, none⟩ 1 1 [.int .u8 M] rfl rfl (cell_one_new _ _ _) ?c2 ?c3 ?c4 ?c5 ?_))
  case c2 => intro u hu; simp at hu; subst hu; rfl
  case c3 => unfold maxLen; omega
  case c4 => omega
  case c5 => have := B0.out.size; simp; omega
  intro v' w1 hown' hgrow _
  have H' := hide hown'
  have G' : Hid (Below w.heap.size w w1) := (below_alloc B0.out _).grown hgrow (by simp; have := B0.out.size; omega) (fun j hj => (O0.out.lt j hj).1)
  clear hown' hgrow
  go_wp2_with fail
  refine (cP.out v' w1 H'.out G'.out).mono ?_
  rintro e w2 ⟨r, rfl, ho, hb⟩
  have HO := hide ho
  have HB := hide hb
  clear ho hb
  go_wp2
  go_ret
  exact ⟨_, rfl, HO.out, HB.out⟩
end Go.Proofs.Ytlcjkmgeaiclbaa
