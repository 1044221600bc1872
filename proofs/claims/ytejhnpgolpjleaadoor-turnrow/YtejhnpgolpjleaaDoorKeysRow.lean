/- Own: rows of keys, one behind the other (no statement is proved here). -/
import Derived.Test.YtejhnpgolpjleaaDoorKeysArg
import Derived.Laws.AppendOwn
namespace Go.Proofs.YtejhnpgolpjleaaDoor
open Go.ChangeShapes Go.WideShapes Go.ChangeAt Go.RowKit

theorem wpList_append_run {P : Program} {ops : Array Oper} {rest : List Oper} {o : Oper} {a : Act} {w : World} {Q : Exit → Act → World → Prop} (hgd : o.guard = none) (s x : Operand) (t : TypeId)
    (ho : o.op = .call { callee := .builtin .append, args := #[s, x], argTypes := #[t, t] }) (u v v' : Value) (w' : World) (hs : a.eval s = u) (hx : a.eval x = v)
    (hr : (Builtin.append_ #[t, t] o.type #[u, v]).run P w = .ok v' w') (h : wpList P ops Q rest (a.put o.dst v') w') : wpList P ops Q (o :: rest) a w := by
  refine wpList_plain hgd fun K hK => ?_
  unfold Oper.wp execOp
  simp only [ho, resolve, invoke, builtin, Sem.run_bind, Sem.run_pure, Result.andThen_ok, List.map_toArray, List.map_cons, List.map_nil, hs, hx, hr]
  exact hK _ _ h
/-- All keys' bytes, one behind the other. -/
def flat (ks : Nat → Nat → Nat) (n : Nat) : List Value := bc (n * 16) fun j => ks (j / 16) (j % 16)
theorem flat_len (ks : Nat → Nat → Nat) (n : Nat) : (flat ks n).length = n * 16 := bc_len _ _
theorem flat_one (ks : Nat → Nat → Nat) (n : Nat) : ∀ v ∈ flat ks n, v.oneCell' = true := fun v hv => by
  unfold flat bc at hv; obtain ⟨i, _, rfl⟩ := List.mem_map.1 hv; rfl
theorem flat_cells {w : World} {b off n : Nat} {ks : Nat → Nat → Nat} (h : ∀ i, i < n → w.rangeAt b (off + i * 16) (bc 16 (ks i))) (j : Nat) (u : Value) (hj : (flat ks n)[j]? = some u) : w.cell? ⟨b, off + j, none⟩ = some u := by
  have hlt : j < n * 16 := by have := (List.getElem?_eq_some_iff.1 hj).1; rwa [flat_len] at this
  have h1 := h (j / 16) (by omega) (j % 16) _ (bc_get 16 _ (j % 16) (Nat.mod_lt _ (by decide)))
  rw [show off + j / 16 * 16 + j % 16 = off + j by omega] at h1
  rw [h1, ← hj]
  unfold flat
  rw [bc_get _ _ j hlt]
theorem append_keys (w : World) (base n : Nat) (u v : Value) (xs : List Value) (m : Nat) (ls : Nat → Nat → Nat) (hown : w.ownsRow base 22 16 u n xs) (hv : IsK w v m ls) (hn : n + m ≤ 100) (hb : base ≤ w.heap.size) :
    ∃ v' w', (Builtin.append_ #[34, 34] 34 #[u, v]).run Tryd.prog w = .ok v' w' ∧ w'.ownsRow base 22 16 v' (n + m) (xs ++ flat ls m) ∧ Below base w w' := by
  obtain ⟨i0, hi0, hz0, hz1, hz2⟩ : ∃ i, Tryd.prog.info? 22 = some i ∧ i.zero = some (.agg (bc 16 fun _ => 0).toArray) ∧ i.size = 16 ∧ i.bytes = 16 := ⟨_, rfl, rfl, rfl, rfl⟩
  obtain ⟨_, a, c, rfl, hr⟩ := hv
  rcases a with _ | ad
  · obtain rfl : m = 0 := by rcases hr with h | ⟨_, _, h, _⟩; exact h; cases h
    have e : flat ls 0 = [] := rfl
    rw [e, List.append_nil, Nat.add_zero]
    refine ⟨u, w, ?_, hown, Below.refl _ _⟩
    rcases hown.2 with ⟨rfl, _⟩ | ⟨g, cap, cur, rfl, _, _, hle, _, _, _⟩
    · rfl
    · simp [Builtin.append_, Builtin.lenOf, Builtin.firstCells, underlying, sizeOf, typeInfo, go_sem, Tryd.underlying34, hle, hi0]
  · obtain ⟨v', w', h1, h2, h3, _⟩ := run_append_own (P := Tryd.prog) w base 34 34 22 i0 _ 16 16 Tryd.underlying34 hi0 hz0 hz1 hz2 rfl (by decide) u n xs hown ad m c (flat ls m) (flat_len ls m)
      (fun j x hj => by
        have hlt : j < m * 16 := by have := (List.getElem?_eq_some_iff.1 hj).1; rwa [flat_len] at this
        rcases hr with h | ⟨b, off, e, hc⟩
        · omega
        · cases e
          rw [addr_add]
          exact flat_cells hc j x hj)
      (flat_one ls m) (by unfold maxLen; omega) (by omega) hb
    exact ⟨v', w', h1, h2, (Below.refl _ _).grown h3 hb (fun j hj => (hown.lt j hj).1)⟩
theorem isK_of_owns {w : World} {base n : Nat} {v : Value} {ks : Nat → Nat → Nat} (hk : ∀ i, Byt (ks i)) (h : w.ownsRow base 22 16 v n (flat ks n)) : IsK w v n ks := by
  obtain ⟨_, h | ⟨g, cap, cur, rfl, _, hg, hle, _, hsz, hx⟩⟩ := h
  · obtain ⟨rfl, rfl⟩ := h
    exact ⟨hk, _, _, rfl, .inl rfl⟩
  · refine ⟨hk, _, _, rfl, .inr ⟨g, 0, rfl, fun i hi j x hj => ?_⟩⟩
    have hj16 : j < 16 := by have := (List.getElem?_eq_some_iff.1 hj).1; rwa [bc_len] at this
    rw [bc_get 16 _ j hj16] at hj
    have e : (flat ks n)[i * 16 + j]? = some x := by
      unfold flat
      rw [bc_get _ _ _ (by omega), show (i * 16 + j) / 16 = i by omega, show (i * 16 + j) % 16 = j by omega]; exact hj
    rw [cell_of_row w g _ _ _ _ hg, Nat.zero_add]
    rw [← hx, List.getElem?_take_of_lt (by omega)] at e
    simpa using e
/-- Two rows of keys as one. -/
def both (ks ls : Nat → Nat → Nat) (n i : Nat) : Nat → Nat := if i < n then ks i else ls (i - n)
theorem both_flat (ks ls : Nat → Nat → Nat) (n m : Nat) : flat ks n ++ flat ls m = flat (both ks ls n) (n + m) := by
  apply List.ext_getElem
  · rw [List.length_append, flat_len, flat_len, flat_len]; omega
  · intro j h1 h2
    rw [flat_len] at h2
    by_cases h : j < n * 16
    · rw [List.getElem_append_left (by rw [flat_len]; exact h)]
      simp only [flat, bc, List.getElem_map, List.getElem_range, both, show j / 16 < n by omega, if_true]
    · rw [List.getElem_append_right (by rw [flat_len]; omega)]
      simp only [flat, bc, List.getElem_map, List.getElem_range, both, show ¬ j / 16 < n by omega, if_false, List.length_map, List.length_range]
      rw [show (j - n * 16) / 16 = j / 16 - n by omega, show (j - n * 16) % 16 = j % 16 by omega]
theorem rnds_keys {f : Nat → Nat} {ks ls : Nat → Nat → Nat} : ∀ n, (∀ i, i < n → ks i = ls i) → rnds f ks n = rnds f ls n
  | 0, _ => rfl
  | n + 1, h => by rw [rnds, rnds, rnds_keys n fun i hi => h i (by omega), h n (by omega)]
theorem rnds_both (f : Nat → Nat) (ks ls : Nat → Nat → Nat) (n : Nat) : ∀ m, rnds f (both ks ls n) (n + m) = rnds (rnds f ks n) ls m
  | 0 => rnds_keys n fun i hi => by unfold both; rw [if_pos hi]
  | m + 1 => by
    rw [← Nat.add_assoc, rnds, rnds, rnds_both f ks ls n m]
    unfold both; rw [if_neg (by omega), show n + m - n = m by omega]
end Go.Proofs.YtejhnpgolpjleaaDoor
