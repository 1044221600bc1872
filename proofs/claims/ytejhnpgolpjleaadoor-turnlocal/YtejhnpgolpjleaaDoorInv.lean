/- Own: a region that draws its order, by a relation that each of its next operations keeps (no statement is proved here). -/
import Derived.Test.YtejhnpgolpjleaaDoorBase
namespace Go.Proofs.YtejhnpgolpjleaaDoor
open Go.ChangeShapes Go.WideShapes Go.ChangeAt Go.RowKit

theorem wpAnyH_inv {P : Program} {md : Region.Mode} {ops : Array Oper} {Q : Exit → Act → World → Prop} {S : World → Prop} {k : Nat} (I : Nat → Array Bool → Act → World → Prop)
    (hbase : ∀ L a w, I 0 L a w → S w → wpAnyH P md ops Q S k L a w)
    (hstep : ∀ n L a w, I (n + 1) L a w → S w → Region.ready md ops L ≠ [] ∧ ∀ i ∈ Region.ready md ops L, wpOp P ops Q i (fun a' w' => S w' ∧ I n (L.setIfInBounds i true) a' w') a w) :
    ∀ n L a w, I n L a w → S w → wpAnyH P md ops Q S (n + k) L a w
  | 0, L, a, w, h, hS => by rw [Nat.zero_add]; exact hbase L a w h hS
  | n + 1, L, a, w, h, hS => by
    obtain ⟨hne, hall⟩ := hstep n L a w h hS
    rw [show n + 1 + k = (n + k) + 1 by omega]
    exact ⟨fun h0 => absurd h0 hne, fun i hi => wpOp_mono (fun a' w' h' => ⟨h'.1, wpAnyH_inv I hbase hstep n _ a' w' h'.2 h'.1⟩) (hall i hi)⟩
end Go.Proofs.YtejhnpgolpjleaaDoor
