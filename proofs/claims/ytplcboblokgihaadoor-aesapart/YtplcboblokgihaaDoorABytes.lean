/- Own: a key's bytes, of layer 4's statements (no statement is proved here). -/
import Derived.Test.YtplcboblokgihaaDoorABack
import Derived.Laws.AppendOwn
namespace Go.Proofs.YtplcboblokgihaaDoor
open Go.ChangeShapes Go.WideShapes Go.ChangeAt Go.RowKit

theorem wpList_append_run {P : Program} {ops : Array Oper} {rest : List Oper} {o : Oper} {a : Act} {w : World} {Q : Exit → Act → World → Prop} (hgd : o.guard = none) (s x : Operand) (t : TypeId)
    (ho : o.op = .call { callee := .builtin .append, args := #[s, x], argTypes := #[t, t] }) (u v v' : Value) (w' : World) (hs : a.eval s = u) (hx : a.eval x = v)
    (hr : (Builtin.append_ #[t, t] o.type #[u, v]).run P w = .ok v' w') (h : wpList P ops Q rest (a.put o.dst v') w') : wpList P ops Q (o :: rest) a w := by
  refine wpList_plain hgd fun K hK => ?_
  unfold Oper.wp execOp
  simp only [ho, resolve, invoke, builtin, Sem.run_bind, Sem.run_pure, Result.andThen_ok, List.map_toArray, List.map_cons, List.map_nil, hs, hx, hr]
  exact hK _ _ h
/-- The cells of a key of the statements: 32 bytes, and which length. -/
def zL (f : Nat → Nat) (s : Nat) : List Value := bc 32 f ++ [.int .u8 (s : Nat)]
theorem append_bytes (w : World) (g n : Nat) (f : Nat → Nat) (s : Nat) (t : TypeId) (hn : n ≤ 32) (hg : w.heap[g]? = some (.cells (zL f s).toArray t (0, 0))) (hf : Byt f) :
    ∃ v' w', (Builtin.append_ #[22, 22] 22 #[.slice (some ⟨w.heap.size, 0, none⟩) 0 0, .slice (some ⟨g, 0, none⟩) n 32]).run Tryd.prog (w.alloc (.cells #[] 5)) = .ok v' w' ∧ IsB w' v' (toB n f) ∧ Below w.heap.size w w' := by
  obtain ⟨i0, hi0, hz0, hz1, hz2⟩ : ∃ i, Tryd.prog.info? 5 = some i ∧ i.zero = some (.int .u8 0) ∧ i.size = 1 ∧ i.bytes = 1 := ⟨_, rfl, rfl, rfl, rfl⟩
  have own0 : (w.alloc (.cells #[] 5)).ownsRow w.heap.size 5 1 (.slice (some ⟨w.heap.size, 0, none⟩) 0 0) 0 [] :=
    ⟨rfl, .inr ⟨w.heap.size, 0, #[], rfl, Nat.le_refl _, heap_alloc_new _ _, Nat.le_refl _, by decide, rfl, rfl⟩⟩
  have bA := below_alloc (Below.refl w.heap.size w) (.cells #[] 5)
  have hg' := (bA.block _ (Array.getElem?_eq_some_iff.1 hg).1).trans hg
  obtain ⟨v', w', h1, h2, h3, _⟩ := run_append_own (P := Tryd.prog) (w.alloc (.cells #[] 5)) w.heap.size 22 22 5 i0 _ 1 1 Tryd.underlying22 hi0 hz0 hz1 hz2 rfl (by decide) _ 0 [] own0 ⟨g, 0, none⟩ n 32 (bc n f) (by rw [bc_len]; omega)
    (fun j x hj => by
      have hlt : j < n := by have := (List.getElem?_eq_some_iff.1 hj).1; rwa [bc_len] at this
      rw [bc_get n f j hlt] at hj
      rw [addr_add, cell_of_row _ g _ _ _ _ hg', Nat.zero_add, List.getElem?_toArray]
      unfold zL
      rw [List.getElem?_append_left (by rw [bc_len]; omega), bc_get 32 f j (by omega)]
      exact hj)
    (fun v hv => by unfold bc at hv; obtain ⟨i, _, rfl⟩ := List.mem_map.1 hv; rfl) (by unfold maxLen; omega) (by omega) bA.size
  refine ⟨v', w', h1, ?_, bA.trans ((Below.refl _ _).grown h3 bA.size (fun j hj => (own0.lt j hj).1))⟩
  rw [Nat.zero_add, List.nil_append] at h2
  obtain ⟨_, h | ⟨q, cap, cur, rfl, _, hq, hle, _, hsz, hx⟩⟩ := h2
  · obtain ⟨rfl, rfl⟩ := h
    exact ⟨by rw [toB_len]; decide, _, _, rfl, .inl (toB_len _ _)⟩
  · refine ⟨by rw [toB_len]; omega, _, _, by rw [toB_len], .inr ⟨q, 0, rfl, fun i hi => ?_⟩⟩
    rw [toB_len] at hi
    have hb := toB_get n f hf i hi
    unfold lf at hb
    rw [hb, cell_of_row _ q _ _ _ _ hq, Nat.zero_add]
    have e := bc_get n f i hi
    rw [← hx, List.getElem?_take_of_lt (by omega)] at e
    simpa using e
/-- How many bytes a key of the statements has. -/
def zn (s : Nat) : Nat := 16 + 8 * (s % 3)
set_option maxRecDepth 100000 in
theorem bytes_any (f : Nat → Nat) (s : Nat) (hf : Byt f) (hs : s < 256) (w : World) :
    Calls Tryd.prog 18 #[.agg (zL f s).toArray] w fun e w' => ∃ v, e = .returned v ∧ IsB w' v (toB (zn s) f) ∧ Below w.heap.size w w' := by
  have n0 : (w.alloc (.cells (zL f s).toArray 43)).heap[w.heap.size]? = some (.cells (zL f s).toArray 43 (0, 0)) := heap_alloc_new _ _
  have c32 : (w.alloc (.cells (zL f s).toArray 43)).cell? ⟨w.heap.size, 32, none⟩ = some (.int .u8 (s : Nat)) := by
    rw [cell_of_row _ _ _ _ _ _ n0, List.getElem?_toArray]
    unfold zL
    rw [List.getElem?_append_right (by rw [bc_len]; omega), bc_len, Nat.sub_self]; rfl
  obtain ⟨n, hn⟩ : ∃ n, n = zn s := ⟨_, rfl⟩
  have hn32 : n ≤ 32 := by rw [hn]; unfold zn; omega
  obtain ⟨v, w1, hr, hv, hb⟩ := append_bytes _ w.heap.size n f s _ hn32 n0 hf
  have b0 := below_alloc (Below.refl w.heap.size w) (.cells (zL f s).toArray 43)
  have B1 := hide (below_two b0 hb)
  rw [World.size_alloc] at hr
  have HR := hide hr
  have HV := hide hv
  rw [← hn]
  have a1 : 16 + 8 * ((s : Int) % 3) = (n : Int) := by rw [hn]; unfold zn; omega
  have a2 : (n : Int) ≤ 32 := by omega
  obtain ⟨A, hA⟩ : ∃ A, A = (zL f s).toArray := ⟨_, rfl⟩
  rw [← hA] at c32 HR ⊢
  clear n0 hr hv hb b0 hA hn
  go_enter Tryd.func18, Tryd.ntmps18
  go_wp2_with (at_builtin; refine wpList_append_run rfl _ _ 22 rfl _ _ v w1 rfl rfl HR.out ?_)
  go_ret
  exact ⟨v, rfl, HV.out, B1.out⟩
end Go.Proofs.YtplcboblokgihaaDoor
