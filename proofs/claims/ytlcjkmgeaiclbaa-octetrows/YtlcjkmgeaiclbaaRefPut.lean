/- Own: the contract of the reference's Put (no statement is proved here). -/
import Derived.Test.YtlcjkmgeaiclbaaPut
namespace Go.Proofs.Ytlcjkmgeaiclbaa
open Go.ChangeShapes Go.WideShapes Go.ChangeAt Go.RowKit
theorem putB_succ (N k M : Nat) (hM : M = N / 256 ^ k) : bcells (putB N (k + 1)) = bcells (putB N k) ++ [.int .u8 ((M : Int) % 256)] := by
  have h := cell_putB N k
  subst hM
  simp only [bcells, putB, List.range_succ, List.map_append, List.map_cons, List.map_nil, h]
  congr 3
theorem div_succ (N k M : Nat) (hM : M = N / 256 ^ k) : N / 256 ^ (k + 1) = M / 256 := by
  rw [hM, Nat.pow_succ, Nat.div_div_eq_div_mul]
set_option maxHeartbeats 800000 in
theorem rput_any (N m : Nat) (hN : N < 18446744073709551616) (hm : m ≤ 8) (w : World) :
    Calls Try.prog 23 #[.int .u64 N, .int .i64 m] w fun e w' => ∃ v, e = .returned v ∧ w'.ownsRow w.heap.size 5 1 v m (bcells (putB N m)) ∧ Below w.heap.size w w' := by
  obtain ⟨i0, hi, hz0, hz1, hz2⟩ : ∃ i, Try.prog.info? 5 = some i ∧ i.zero = some (.int .u8 0) ∧ i.size = 1 ∧ i.bytes = 1 := ⟨_, rfl, rfl, rfl, rfl⟩
  go_enter Try.func23, Try.ntmps23
  go_wp2
  go_loopw [0, 5, 6] (fun n v i wr => ∃ k : Nat, k ≤ m ∧ n = .int .u64 ((N / 256 ^ k : Nat) : Int) ∧ i = .int .i64 k ∧ Hid (wr.ownsRow w.heap.size 5 1 v k (bcells (putB N k)) ∧ Below w.heap.size w wr)) (fun _ _ i _ => m - (intOf i).toNat)
  case atStart => exact ⟨0, Nat.zero_le _, by simp, rfl, World.ownsRow_nil _ _ _ _, Below.refl _ _⟩
  case round =>
    rename_i wr
    obtain ⟨k, hk, rfl, rfl, HR⟩ := hrel
    obtain ⟨M, hM⟩ : ∃ M, M = N / 256 ^ k := ⟨_, rfl⟩
    have hM2 : M < 18446744073709551616 := by rw [hM]; exact Nat.lt_of_le_of_lt (Nat.div_le_self _ _) hN
    rw [← hM]
    have HM := hide hM
    clear hM
    by_cases hlt : k < m
    · have hlt' : (k : Int) < m := by omega
      go_wp2_with (first
        | (at_builtin; refine wpList_append_own _ rfl _ _ 22 rfl w.heap.size 5 i0 (.int .u8 0) 1 1 Try.underlying22 hi hz0 hz1 hz2 rfl (by decide) _ _ _ rfl (HR.out.1.alloc _) ⟨wr.heap.size, 0, none⟩ 1 1 [.int .u8 ((M : Int) % 256)] rfl rfl ?c1 ?c2 ?c3 ?c4 ?c5 ?_))
      case c1 =>
        intro j u hj
        match j, hj with
        | 0, hj => simp at hj; subst hj; simp [Addr.add]
      case c2 => intro u hu; simp at hu; subst hu; rfl
      case c3 => unfold maxLen; omega
      case c4 => omega
      case c5 => have := HR.out.2.size; simp; omega
      · intro v' w1 hown' hgrow _
        have H' := hide hown'
        have G' := hide hgrow
        clear hown' hgrow
        go_wp2
        go_roundw
        case rel =>
          refine ⟨k + 1, by omega, ?_, by go_num, ?_⟩
          · rw [div_succ N k M HM.out]; congr 1
          · show _ ∧ _
            rw [putB_succ N k M HM.out]
            refine ⟨H'.out, ?_⟩
            have hb := HR.out.2
            exact (below_alloc hb _).grown G'.out (by simp; have := hb.size; omega) (fun j hj => (HR.out.1.lt j hj).1)
        case measure => simp [intOf]; omega
    · have hlt' : decide ((k : Int) < m) = false := by simp; omega
      obtain rfl : k = m := by omega
      clear hlt
      go_wp2
      go_ret
      exact ⟨_, rfl, HR.out.1, HR.out.2⟩
end Go.Proofs.Ytlcjkmgeaiclbaa
