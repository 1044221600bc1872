/- Own: the contract of the law's wide, and how an argument of sixteen bytes is opened (no statement is proved here). -/
import Derived.Test.YtlcjkmgeaiclbaaNum
import Derived.Test.YtlcjkmgeaiclbaaLift
namespace Go.Proofs.Ytlcjkmgeaiclbaa
open Go.ChangeShapes Go.WideShapes Go.ChangeAt Go.RowKit

theorem number8 (v : Value) (bs : List UInt8) (at' : Int) (w : World) (hv : IsB w v bs) (hn : bs.length ≤ 1099511627776) :
    Calls Try.prog 15 #[v, .int .i64 at', .int .i64 8] w fun e w' => e = .returned (.int .u64 (num bs at' 8 : Nat)) ∧ w' = w := number_any v bs at' 8 w hv hn (by decide)
theorem isB_row (w : World) (g n : Nat) (bs : List UInt8) (t : TypeId) (hl : bs.length = n) (hn : n ≤ 1000000) (hg : w.heap[g]? = some (.cells (bcells bs).toArray t (0, 0))) (c : Nat) : IsB w (.slice (some ⟨g, 0, none⟩) n c) bs := by
  subst hl
  refine ⟨by omega, _, c, rfl, .inr ⟨g, 0, rfl, fun i hi => ?_⟩⟩
  rw [cell_of_row w g _ _ _ _ hg]
  simpa using bcells_get bs i hi
set_option maxHeartbeats 800000 in
theorem wide_core (X : Array Value) (N : Int → Nat) (w : World)
    (cN : Hid (∀ at' : Int, Calls Try.prog 15 #[.slice (some ⟨w.heap.size, 0, none⟩) 16 16, .int .i64 at', .int .i64 8] ((w.alloc (.cells X 27)).alloc (.cells #[.int .u64 0, .int .u64 0] 25)).drew fun e w' => e = .returned (.int .u64 (N at' : Nat)) ∧ w' = ((w.alloc (.cells X 27)).alloc (.cells #[.int .u64 0, .int .u64 0] 25)).drew)) :
    Calls Try.prog 17 #[.agg X] w fun e w' => e = .returned (.agg #[.int .u64 (N 0 : Nat), .int .u64 (N 8 : Nat)]) ∧ Below w.heap.size w w' := by
  go_enter Try.func17, Try.ntmps17
  go_wp2_with fail
  go_region_with
    (first
      | (go_at_call 15; refine (cN.out _).mono ?_; rintro e w' ⟨rfl, rfl⟩))
  all_goals go_wp2
  all_goals simp [bodyPost, results, Try.results17, go_sem]
  all_goals repeat (first | exact Below.refl _ _ | refine Below.drew ?_ | refine below_alloc ?_ _)
theorem wide_any (bs : List UInt8) (hl : bs.length = 16) (w : World) :
    Calls Try.prog 17 #[.agg (bcells bs).toArray] w fun e w' => e = .returned (.agg #[.int .u64 (num bs 0 8 : Nat), .int .u64 (num bs 8 8 : Nat)]) ∧ Below w.heap.size w w' :=
  wide_core (bcells bs).toArray (fun a => num bs a 8) w (fun at' => number8 _ bs at' _ (isB_row _ _ 16 bs 27 hl (by decide) (by rw [heap_drew]; exact heap_alloc2_old _ _ _) 16) (by omega))
end Go.Proofs.Ytlcjkmgeaiclbaa
