/- Own: the contracts of teller, Word and Long of layer 1 (no statement is proved here). -/
import Derived.Test.YtlkihbmkekadeaaDoorBase
namespace Go.Proofs.YtlkihbmkekadeaaDoor
open Go.ChangeShapes Go.WideShapes Go.ChangeAt Go.RowKit

set_option maxHeartbeats 400000 in
theorem tell_in (b off : Nat) (n c : Nat) (x : Int) (at' i : Int) (p q : Addr) (w : World) (h1 : w.cell? p = some (.int .i64 at')) (h2 : w.cell? q = some (.slice (some ⟨b, off, none⟩) n c)) (hi : 0 ≤ i) (hi' : i ≤ 7) (hn : n ≤ 9223372036854775807) (hlo : decide (at' < -i) = false) (hhi : decide ((n : Int) - i ≤ at') = false)
    (hx : w.cell? ⟨b, off + (at' + i).toNat, none⟩ = some (.int .u8 x)) :
    Calls Tryd.prog 80 #[.int .i64 i, .pointer (some p), .pointer (some q)] w fun e w' => e = .returned (.int .u8 x) ∧ w' = w := by
  have g1 : 0 ≤ at' + i := by simp at hlo; omega
  have g2 : at' + i < n := by simp at hhi; omega
  have g3 : -9223372036854775808 ≤ at' := by omega
  have g4 : at' ≤ 9223372036854775807 := by omega
  go_enter Tryd.func80, Tryd.ntmps80
  go_wp2
  go_ret
  exact ⟨rfl, rfl⟩
set_option maxHeartbeats 400000 in
theorem tell_below (a : Option Addr) (n c : Nat) (at' i : Int) (p q : Addr) (w : World) (h1 : w.cell? p = some (.int .i64 at')) (_h2 : w.cell? q = some (.slice a n c)) (hi : 0 ≤ i) (hi' : i ≤ 7) (hlo : at' < -i) :
    Calls Tryd.prog 80 #[.int .i64 i, .pointer (some p), .pointer (some q)] w fun e w' => e = .returned (.int .u8 0) ∧ w' = w := by
  go_enter Tryd.func80, Tryd.ntmps80
  go_wp2
  go_ret
  exact ⟨rfl, rfl⟩
set_option maxHeartbeats 400000 in
theorem tell_above (a : Option Addr) (n c : Nat) (at' i : Int) (p q : Addr) (w : World) (h1 : w.cell? p = some (.int .i64 at')) (h2 : w.cell? q = some (.slice a n c)) (hi : 0 ≤ i) (hi' : i ≤ 7) (hn : n ≤ 9223372036854775807) (hlo : decide (at' < -i) = false) (hhi : (n : Int) - i ≤ at') :
    Calls Tryd.prog 80 #[.int .i64 i, .pointer (some p), .pointer (some q)] w fun e w' => e = .returned (.int .u8 0) ∧ w' = w := by
  go_enter Tryd.func80, Tryd.ntmps80
  go_wp2
  go_ret
  exact ⟨rfl, rfl⟩
theorem tell_any (v : Value) (bs : List UInt8) (at' i : Int) (p q : Addr) (w : World) (hv : IsB w v bs) (h1 : w.cell? p = some (.int .i64 at')) (h2 : w.cell? q = some v) (hi : 0 ≤ i) (hi' : i ≤ 7) :
    Calls Tryd.prog 80 #[.int .i64 i, .pointer (some p), .pointer (some q)] w fun e w' => e = .returned (.int .u8 (byteAt bs (at' + i) : Nat)) ∧ w' = w := by
  obtain ⟨hn, a, c, rfl, hr⟩ := hv
  by_cases hlo : at' < -i
  · rw [byteAt_out bs _ (by omega)]
    exact tell_below a _ c at' i p q w h1 h2 hi hi' hlo
  by_cases hhi : (bs.length : Int) - i ≤ at'
  · rw [byteAt_out bs _ (by omega)]
    exact tell_above a _ c at' i p q w h1 h2 hi hi' hn (by simpa using hlo) hhi
  rcases hr with hr | ⟨b, off, rfl, hc⟩
  · omega
  · rw [byteAt_in bs _ (by omega) (by omega)]
    exact tell_in b off _ c _ at' i p q w h1 h2 hi hi' hn (by simpa using hlo) (by simpa using hhi) (hc _ (by omega))

theorem teller_any (v : Value) (at' : Int) (w : World) (hv : ∃ a n c, v = .slice a n c) :
    Calls Tryd.prog 71 #[v, .int .i64 at'] w fun e w' => e = .returned (.func (.func 80) #[] #[.pointer (some ⟨w.heap.size + 1, 0, none⟩), .pointer (some ⟨w.heap.size, 0, none⟩)]) ∧ w' = (w.alloc (.cells #[v] 22)).alloc (.cells #[.int .i64 at'] 3) := by
  obtain ⟨a, n, c, rfl⟩ := hv
  have hmf : ∀ (fn : Fn) (first cap : Array Value) (w : World), (Instr.makeFunc fn first cap).run Tryd.prog w = .ok (.func fn first cap) w := fun _ _ _ _ => rfl
  go_enter Tryd.func71, Tryd.ntmps71
  go_wp2
  go_ret
  exact ⟨rfl, rfl⟩

set_option maxHeartbeats 800000 in
theorem word_w (v : Value) (bs : List UInt8) (at' : Int) (w : World) (hv : IsB w v bs) :
    Calls Tryd.prog 58 #[v, .int .i64 at'] w fun e w' => e = .returned (.int .u32 (num bs at' 4 : Nat)) ∧ w' = (w.alloc (.cells #[v] 22)).alloc (.cells #[.int .i64 at'] 3) := by
  have hs : ∃ a n c, v = .slice a n c := by obtain ⟨_, a, c, e, _⟩ := hv; exact ⟨a, _, c, e⟩
  have hbel : Below w.heap.size w ((w.alloc (.cells #[v] 22)).alloc (.cells #[.int .i64 at'] 3)) := ((Below.refl _ _).alloc (Nat.le_refl _) _).alloc (by simp) _
  obtain ⟨W, hW⟩ : ∃ W, W = (w.alloc (.cells #[v] 22)).alloc (.cells #[.int .i64 at'] 3) := ⟨_, rfl⟩
  have hv' : Hid (IsB W v bs) := by rw [hW]; exact hv.later hbel
  have c1 : W.cell? ⟨w.heap.size + 1, 0, none⟩ = some (.int .i64 at') := by rw [hW]; simp [go_sem]
  have c2 : W.cell? ⟨w.heap.size, 0, none⟩ = some v := by rw [hW]; simp [go_sem]
  go_enter Tryd.func58, Tryd.ntmps58
  go_wp2_with (go_at_call 71; refine (teller_any v at' _ hs).mono ?_; rintro e w' ⟨rfl, rfl⟩)
  rw [← hW]
  have hW' : Hid (W = (w.alloc (.cells #[v] 22)).alloc (.cells #[.int .i64 at'] 3)) := hW
  clear hW hs hv hbel
  go_loop [6, 11] (fun s i => ∃ k : Nat, k ≤ 4 ∧ i = .int .i64 k ∧ s = .int .u32 (num bs at' k : Nat)) (fun _ i => 4 - (intOf i).toNat)
  case atStart => exact ⟨0, by omega, rfl, rfl⟩
  case round =>
    obtain ⟨k, hk, rfl, rfl⟩ := hrel
    by_cases hlt : k < 4
    · go_wp2_with (go_at_call 80; refine (tell_any v bs at' k _ _ W hv'.out c1 c2 (by omega) (by omega)).mono ?_; rintro e w' ⟨rfl, rfl⟩)
      go_round
      case rel => exact ⟨k + 1, by omega, by go_num, by rw [or_step32 bs at' k hlt]⟩
      case measure => simp [intOf]; omega
    · go_wp2
      go_ret
      have : k = 4 := by omega
      subst this
      exact ⟨rfl, hW'.out⟩
theorem two_boxes (w : World) (a b : Array Value) (s t : TypeId) : Below w.heap.size w ((w.alloc (.cells a s)).alloc (.cells b t)) := ((Below.refl _ _).alloc (Nat.le_refl _) _).alloc (by simp) _
theorem word_any (v : Value) (bs : List UInt8) (at' : Int) (w : World) (hv : IsB w v bs) :
    Calls Tryd.prog 58 #[v, .int .i64 at'] w fun e w' => e = .returned (.int .u32 (num bs at' 4 : Nat)) ∧ Below w.heap.size w w' := by
  refine (word_w v bs at' w hv).mono ?_
  rintro e w' ⟨rfl, rfl⟩
  exact ⟨rfl, two_boxes _ _ _ _ _⟩
end Go.Proofs.YtlkihbmkekadeaaDoor
