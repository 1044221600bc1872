/- Own: the contracts of boxed of layer 4 (no statement is proved here). -/
import Derived.Test.YtlkihbmkekadeaaDoorTRounds
namespace Go.Proofs.YtlkihbmkekadeaaDoor
open Go.ChangeShapes Go.WideShapes Go.ChangeAt Go.RowKit
set_option maxRecDepth 20000

theorem one4 (a b c d : Nat) : (#[Value.int .u8 (a : Nat), .int .u8 (b : Nat), .int .u8 (c : Nat), .int .u8 (d : Nat)] : Array Value).all (·.oneCell') = true := bc_one 4 fun i => match i with | 0 => a | 1 => b | 2 => c | _ => d
/-- A word, as a value. -/
def wdV (a b c d : Nat) : Value := .agg #[.int .u8 (a : Nat), .int .u8 (b : Nat), .int .u8 (c : Nat), .int .u8 (d : Nat)]
set_option maxRecDepth 100000 in
set_option maxHeartbeats 4000000 in
theorem boxed_core (v : Value) (a b c d a' b' c' d' : Nat) (w : World)
    (ka : Hid (∀ w', Below w.heap.size w w' → Calls Tryd.prog 81 #[v, .int .u8 (a : Nat)] w' fun e w'' => e = .returned (.int .u8 (a' : Nat)) ∧ w'' = w'))
    (kb : Hid (∀ w', Below w.heap.size w w' → Calls Tryd.prog 81 #[v, .int .u8 (b : Nat)] w' fun e w'' => e = .returned (.int .u8 (b' : Nat)) ∧ w'' = w'))
    (kc : Hid (∀ w', Below w.heap.size w w' → Calls Tryd.prog 81 #[v, .int .u8 (c : Nat)] w' fun e w'' => e = .returned (.int .u8 (c' : Nat)) ∧ w'' = w'))
    (kd : Hid (∀ w', Below w.heap.size w w' → Calls Tryd.prog 81 #[v, .int .u8 (d : Nat)] w' fun e w'' => e = .returned (.int .u8 (d' : Nat)) ∧ w'' = w')) :
    Calls Tryd.prog 72 #[v, .agg #[.int .u8 (a : Nat), .int .u8 (b : Nat), .int .u8 (c : Nat), .int .u8 (d : Nat)]] w fun e w' => e = .returned (.agg #[.int .u8 (a' : Nat), .int .u8 (b' : Nat), .int .u8 (c' : Nat), .int .u8 (d' : Nat)]) ∧ Below w.heap.size w w' := by
  have x0 : ∀ w, (Instr.index 71 (.agg #[.int .u8 (a : Nat), .int .u8 (b : Nat), .int .u8 (c : Nat), .int .u8 (d : Nat)]) (.int .i64 0)).run Tryd.prog w = .ok (.int .u8 (a : Nat)) w := fun w => rfl
  have x1 : ∀ w, (Instr.index 71 (.agg #[.int .u8 (a : Nat), .int .u8 (b : Nat), .int .u8 (c : Nat), .int .u8 (d : Nat)]) (.int .i64 1)).run Tryd.prog w = .ok (.int .u8 (b : Nat)) w := fun w => rfl
  have x2 : ∀ w, (Instr.index 71 (.agg #[.int .u8 (a : Nat), .int .u8 (b : Nat), .int .u8 (c : Nat), .int .u8 (d : Nat)]) (.int .i64 2)).run Tryd.prog w = .ok (.int .u8 (c : Nat)) w := fun w => rfl
  have x3 : ∀ w, (Instr.index 71 (.agg #[.int .u8 (a : Nat), .int .u8 (b : Nat), .int .u8 (c : Nat), .int .u8 (d : Nat)]) (.int .i64 3)).run Tryd.prog w = .ok (.int .u8 (d : Nat)) w := fun w => rfl
  go_enter Tryd.func72, Tryd.ntmps72
  go_wp2
  refine wp_loop_rounds 5 ?_
  rw [rounds_succ]
  go_wp2_with fail
  refine (ka.out _ ?h0).mono ?_
  case h0 =>
    clear x0 x1 x2 x3
    repeat (first | exact Below.refl _ _ | refine below_alloc ?_ _ | refine Below.setCell ?_ (by simp) _)
  rintro e y0 ⟨rfl, rfl⟩
  go_wp2_with fail
  rw [rounds_succ]
  go_wp2_with fail
  refine (kb.out _ ?h1).mono ?_
  case h1 =>
    clear x0 x1 x2 x3
    repeat (first | exact Below.refl _ _ | refine below_alloc ?_ _ | refine Below.setCell ?_ (by simp) _)
  rintro e y1 ⟨rfl, rfl⟩
  go_wp2_with fail
  rw [rounds_succ]
  go_wp2_with fail
  refine (kc.out _ ?h2).mono ?_
  case h2 =>
    clear x0 x1 x2 x3
    repeat (first | exact Below.refl _ _ | refine below_alloc ?_ _ | refine Below.setCell ?_ (by simp) _)
  rintro e y2 ⟨rfl, rfl⟩
  go_wp2_with fail
  rw [rounds_succ]
  go_wp2_with fail
  refine (kd.out _ ?h3).mono ?_
  case h3 =>
    clear x0 x1 x2 x3
    repeat (first | exact Below.refl _ _ | refine below_alloc ?_ _ | refine Below.setCell ?_ (by simp) _)
  rintro e y3 ⟨rfl, rfl⟩
  go_wp2_with fail
  rw [rounds_succ]
  go_wp2
  simp [bodyPost, results, Tryd.results72, go_sem]
  repeat (first | exact Below.refl _ _ | refine below_alloc ?_ _)
theorem boxed_any (g a b c d : Nat) (ha : a < 256) (hb : b < 256) (hc : c < 256) (hd : d < 256) (w : World) (ht : IsTab w g) : Calls Tryd.prog 72 #[.pointer (some ⟨g, 0, none⟩), wdV a b c d] w fun e w' => e = .returned (wdV (sbox a) (sbox b) (sbox c) (sbox d)) ∧ Below w.heap.size w w' :=
  boxed_core _ a b c d _ _ _ _ w (fun w' hw => box_any g a ha w' (ht.later hw)) (fun w' hw => box_any g b hb w' (ht.later hw)) (fun w' hw => box_any g c hc w' (ht.later hw)) (fun w' hw => box_any g d hd w' (ht.later hw))
end Go.Proofs.YtlkihbmkekadeaaDoor
