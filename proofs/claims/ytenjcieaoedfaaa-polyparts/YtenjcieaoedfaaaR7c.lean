/- Own: the reference's numbers at their places, as bytes (no statement is proved here). -/
import Derived.Test.YtenjcieaoedfaaaR7b
import Derived.KernelRfl
namespace Go.Proofs.Ytenjcieaoedfaaa.Ab
open Go.Proofs
set_option linter.unusedSimpArgs false
def bytesT (n : Nat) : List Int := if h : n = 0 then [] else ((n % 256 : Nat) : Int) :: bytesT (n / 256)
  termination_by n
  decreasing_by omega
def bytesF : List Int → Int → List Int
  | [], c => bytesT c.toNat
  | x :: l, c => ((c + x) % 256) :: bytesF l ((c + x) / 256)
theorem bytesT_le (n : Nat) : leL (bytesT n) = n ∧ All8 (bytesT n) := by
  induction n using Nat.strongRecOn with
  | _ n ih =>
    unfold bytesT
    split
    · rename_i h; subst h; exact ⟨rfl, fun x hx => by cases hx⟩
    · rename_i h
      obtain ⟨h1, h2⟩ := ih (n / 256) (by omega)
      refine ⟨by unfold leL; rw [h1]; omega, fun x hx => ?_⟩
      rcases List.mem_cons.1 hx with rfl | hx
      · unfold R8; omega
      · exact h2 x hx
theorem bytesT_len (m n : Nat) (h : n < 256 ^ m) : (bytesT n).length ≤ m := by
  induction m generalizing n with
  | zero => unfold bytesT; rw [dif_pos (by simp at h; exact h)]; simp
  | succ m ih =>
    unfold bytesT
    split
    · simp
    · rw [List.length_cons]
      have : n / 256 < 256 ^ m := by rw [Nat.pow_succ] at h; omega
      have := ih _ this
      omega
def AllN (l : List Int) (B : Int) : Prop := ∀ x ∈ l, 0 ≤ x ∧ x ≤ B
theorem bytesF_le (l : List Int) (B : Int) (hl : AllN l B) (c : Int) (hc : 0 ≤ c) : leL (bytesF l c) = c + leL l ∧ All8 (bytesF l c) := by
  induction l generalizing c with
  | nil =>
    unfold bytesF
    obtain ⟨h1, h2⟩ := bytesT_le c.toNat
    exact ⟨by rw [h1]; simp [leL]; omega, h2⟩
  | cons x l ih =>
    have hx := hl x List.mem_cons_self
    obtain ⟨h1, h2⟩ := ih (fun y hy => hl y (List.mem_cons_of_mem _ hy)) ((c + x) / 256) (by omega)
    unfold bytesF
    refine ⟨by unfold leL; rw [h1]; omega, fun y hy => ?_⟩
    rcases List.mem_cons.1 hy with rfl | hy
    · unfold R8; omega
    · exact h2 y hy
theorem bytesF_len (l : List Int) (hl : AllN l 1000000000000000000) (c : Int) (hc : 0 ≤ c ∧ c ≤ 1000000000000000000) : (bytesF l c).length ≤ l.length + 8 := by
  induction l generalizing c with
  | nil => unfold bytesF; exact Nat.le_trans (bytesT_len 8 _ (by omega)) (by simp)
  | cons x l ih =>
    have hx := hl x List.mem_cons_self
    unfold bytesF
    rw [List.length_cons, List.length_cons]
    have := ih (fun y hy => hl y (List.mem_cons_of_mem _ hy)) ((c + x) / 256) (by omega)
    omega
end Go.Proofs.Ytenjcieaoedfaaa.Ab
