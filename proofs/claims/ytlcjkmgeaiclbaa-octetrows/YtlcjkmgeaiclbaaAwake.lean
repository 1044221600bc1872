/- Own: the contract of the conversion of bytes to a string, and that of awake (layer 1's examples hold); no statement is proved here. -/
import Derived.Test.YtlcjkmgeaiclbaaMark
import Derived.Laws.IdiomStrings
namespace Go.Proofs.Ytlcjkmgeaiclbaa
open Go.ChangeShapes Go.WideShapes Go.ChangeAt Go.RowKit

theorem conv_any (w : World) (v : Value) (bs : List UInt8) (h : IsB w v bs) : (convert 22 9 v).run Try.prog w = .ok (.string ⟨bs.toArray⟩) w := by
  obtain ⟨_, a, c, rfl, h1⟩ := h
  rcases h1 with h1 | ⟨b, off, rfl, hc⟩
  · obtain rfl : bs = [] := List.eq_nil_of_length_eq_zero h1
    rw [run_convert_bytes_string w 22 9 5 _ _ c Try.underlying22 Try.underlying5 Try.underlying9]
    cases a <;> simp [Conv.bytesToString, loadCells]
    all_goals rfl
  · refine run_convert_bytes_back w 22 9 5 ⟨b, off, none⟩ c bs Try.underlying22 Try.underlying5 Try.underlying9 (fun j hj => ?_)
    rw [addr_add, hc j hj]
    simp [hj]
theorem isB5 (w : World) (g c : Nat) (h0 : w.cell? ⟨g, 0, none⟩ = some (.int .u8 1)) (h1 : w.cell? ⟨g, 1, none⟩ = some (.int .u8 2)) (h2 : w.cell? ⟨g, 2, none⟩ = some (.int .u8 3)) (h3 : w.cell? ⟨g, 3, none⟩ = some (.int .u8 4)) (h4 : w.cell? ⟨g, 4, none⟩ = some (.int .u8 5)) :
    IsB w (.slice (some ⟨g, 0, none⟩) 5 c) [1, 2, 3, 4, 5] := by
  refine ⟨by decide, _, c, rfl, .inr ⟨g, 0, rfl, fun i hi => ?_⟩⟩
  match i, hi with
  | 0, _ => exact h0
  | 1, _ => exact h1
  | 2, _ => exact h2
  | 3, _ => exact h3
  | 4, _ => exact h4
theorem isB2 (w : World) (g c : Nat) (h0 : w.cell? ⟨g, 0, none⟩ = some (.int .u8 7)) (h1 : w.cell? ⟨g, 1, none⟩ = some (.int .u8 8)) :
    IsB w (.slice (some ⟨g, 0, none⟩) 2 c) [7, 8] := by
  refine ⟨by decide, _, c, rfl, .inr ⟨g, 0, rfl, fun i hi => ?_⟩⟩
  match i, hi with
  | 0, _ => exact h0
  | 1, _ => exact h1
theorem conv4 (w : World) (g c : Nat) (h0 : w.cell? ⟨g, 0, none⟩ = some (.int .u8 7)) (h1 : w.cell? ⟨g, 1, none⟩ = some (.int .u8 8)) (h2 : w.cell? ⟨g, 2, none⟩ = some (.int .u8 128)) (h3 : w.cell? ⟨g, 3, none⟩ = some (.int .u8 0)) :
    (convert 22 9 (.slice (some ⟨g, 0, none⟩) 4 c)).run Try.prog w = .ok (.string ⟨#[7, 8, 128, 0]⟩) w := by
  refine conv_any w _ [7, 8, 128, 0] ⟨by decide, _, c, rfl, .inr ⟨g, 0, rfl, fun i hi => ?_⟩⟩
  match i, hi with
  | 0, _ => exact h0
  | 1, _ => exact h1
  | 2, _ => exact h2
  | 3, _ => exact h3
theorem word_lit (g c : Nat) (w : World) (h0 : w.cell? ⟨g, 0, none⟩ = some (.int .u8 1)) (h1 : w.cell? ⟨g, 1, none⟩ = some (.int .u8 2)) (h2 : w.cell? ⟨g, 2, none⟩ = some (.int .u8 3)) (h3 : w.cell? ⟨g, 3, none⟩ = some (.int .u8 4)) (h4 : w.cell? ⟨g, 4, none⟩ = some (.int .u8 5)) :
    Calls Try.prog 14 #[.slice (some ⟨g, 0, none⟩) 5 c, .int .i64 1] w fun e w' => e = .returned (.int .u32 84148994) ∧ w' = (w.alloc (.cells #[.slice (some ⟨g, 0, none⟩) 5 c] 22)).alloc (.cells #[.int .i64 1] 3) :=
  word_w _ [1, 2, 3, 4, 5] 1 w (isB5 w g c h0 h1 h2 h3 h4)
theorem marked_lit (g c : Nat) (w : World) (h0 : w.cell? ⟨g, 0, none⟩ = some (.int .u8 7)) (h1 : w.cell? ⟨g, 1, none⟩ = some (.int .u8 8)) :
    Calls Try.prog 30 #[.slice (some ⟨g, 0, none⟩) 2 c, .int .u8 128, .int .i64 4] w fun e w' => e = .returned (.slice (some ⟨w.heap.size, 0, none⟩) 4 4) ∧ w' = w.alloc (.cells #[.int .u8 7, .int .u8 8, .int .u8 128, .int .u8 0] 5) :=
  marked_w _ [7, 8] 128 4 w (isB2 w g c h0 h1) (by decide) (by decide)

set_option maxHeartbeats 1600000 in
theorem awake_any (w : World) : Calls Try.prog 19 #[] w fun e w' => e = .returned (.bool true) ∧ Below w.heap.size w w' := by
  have hc4 := conv4
  go_enter Try.func19, Try.ntmps19
  go_wp2
  go_region_with
    (first
      | (go_at_call 14; refine (word_lit _ _ _ (by simp [go_sem]) (by simp [go_sem]) (by simp [go_sem]) (by simp [go_sem]) (by simp [go_sem])).mono ?_; rintro e w' ⟨rfl, rfl⟩)
      | (go_at_call 30; refine (marked_lit _ _ _ (by simp [go_sem]) (by simp [go_sem])).mono ?_; rintro e w' ⟨rfl, rfl⟩))
  all_goals go_wp2
  all_goals go_ret
  all_goals exact ⟨rfl, by repeat (first | exact Below.refl _ _ | refine Below.drew ?_ | refine below_alloc ?_ _)⟩
end Go.Proofs.Ytlcjkmgeaiclbaa
