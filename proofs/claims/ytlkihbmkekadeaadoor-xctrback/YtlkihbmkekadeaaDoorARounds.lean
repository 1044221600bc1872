/- Own: roundsOf of layer 4 (no statement is proved here). -/
import Derived.Test.YtlkihbmkekadeaaDoorAExp2
namespace Go.Proofs.YtlkihbmkekadeaaDoor
open Go.ChangeShapes Go.WideShapes Go.ChangeAt Go.RowKit
set_option maxRecDepth 20000

/-- How many rounds a key of that many bytes has. -/
def nrnd (n : Nat) : Nat := if n = 32 then 14 else if n = 24 then 12 else if n = 16 then 10 else 0
theorem roundsOf_any (n : Nat) (w : World) : Calls Tryd.prog 36 #[.int .i64 (n : Nat)] w fun e w' => e = .returned (.int .i64 (nrnd n : Nat)) ∧ w' = w := by
  by_cases h32 : n = 32
  · subst h32
    go_enter Tryd.func36, Tryd.ntmps36
    go_wp2
    go_ret
    exact ⟨rfl, rfl⟩
  · by_cases h24 : n = 24
    · subst h24
      go_enter Tryd.func36, Tryd.ntmps36
      go_wp2
      go_ret
      exact ⟨rfl, rfl⟩
    · by_cases h16 : n = 16
      · subst h16
        go_enter Tryd.func36, Tryd.ntmps36
        go_wp2
        go_ret
        exact ⟨rfl, rfl⟩
      · have e : nrnd n = 0 := by unfold nrnd; rw [if_neg h32, if_neg h24, if_neg h16]
        rw [e]
        have i32 : ¬ (n : Int) = 32 := by omega
        have i24 : ¬ (n : Int) = 24 := by omega
        have i16 : ¬ (n : Int) = 16 := by omega
        go_enter Tryd.func36, Tryd.ntmps36
        go_wp2
        go_ret
        exact ⟨rfl, rfl⟩
end Go.Proofs.YtlkihbmkekadeaaDoor
