/- Own: sums and rounds of blocks, told as elements (no statement is proved here). -/
import Derived.Test.YtfdkdbbigpphcaaDoorX0
import Derived.Test.YtfdkdbbigpphcaaDoorG14
import Derived.Test.YtfdkdbbigpphcaaDoorTU
import Derived.KernelRfl
namespace Go.Proofs.YtfdkdbbigpphcaaDoor.Ab
open Go.Proofs Go.RowKit
set_option linter.unusedSimpArgs false
set_option linter.unusedVariables false
set_option maxRecDepth 4000
-- AGLIM=12
theorem len_rng (n : Nat) (f : Nat → Int) : ((List.range n).map f).length = n := by simp
theorem xor16 (u v : E) : ar8 16 (xr ((List.range 16).map (byt u)) ((List.range 16).map (byt v))) = ar8 16 (byt (u ^^^ v)) := ar8_congr fun j hj => by
  unfold xr; rw [bAt_rng 16 _ j hj, bAt_rng 16 _ j hj, byt_xor u v j hj]
theorem oxor_e (u v : E) : CallOK Tryd.prog (fun _ => none) 63 [.sv 0 0 16, .sv 1 0 16] [(0, .view (ar8 16 (byt u))), (1, .view (ar8 16 (byt v)))] { val := .s 2 0 16 16, upd := [(2, .own (ar8 16 (byt (u ^^^ v))))], nks := [2] } := by
  have c := xor_ok ((List.range 16).map (byt u)) ((List.range 16).map (byt v)) 16 (by simp) (by simp)
  rw [mapr8, mapr8, len_rng, len_rng, xor16] at c
  exact c
theorem oblock_e (u : E) : CallOK Tryd.prog (fun _ => none) 28 [.sv 0 0 16] [(0, .view (ar8 16 (byt u)))] { val := .ex (.agg (ar8 16 (byt u)).toArray) } := by
  have c := oblock_ok ((List.range 16).map (byt u))
  rw [mapr8, len_rng, ar8_congr (s := fun i : Nat => bAt ((List.range 16).map (byt u)) i) (t := byt u) fun j hj => bAt_rng 16 _ j hj] at c
  exact c
theorem fn35 : Tryd.prog.funcs[35]? = some Tryd.f35 := by kernel_rfl
theorem ezplus_e (u v : E) : CallOK Tryd.prog (fun _ => none) 35 [.ex (.agg (ar8 16 (byt u)).toArray), .ex (.agg (ar8 16 (byt v)).toArray)] [] { val := .ex (.agg (ar8 16 (byt (u ^^^ v))).toArray) } := by
  have c1 := oxor_e u v
  have c2 := oblock_e (u ^^^ v)
  generalize byt (u ^^^ v) = z at *
  generalize byt u = f at *
  generalize byt v = g at *
  refine CallOK.from0 hmix Tryd.f35 0 fn35 (by kernel_rfl) (by kernel_rfl) (fun w ρ h1 h2 => ?_)
  refine AG.rs 4 [([], []), ([], [(2, useR [(0, 0, 0), (1, 4, 0)] 20 ({ val := .s 2 0 16 16, upd := [(2, .own (ar8 16 z))], nks := [2] })), (3, useR [(0, 20, 0)] 24 ({ val := .ex (.agg (List.toArray (ar8 16 z))) }))])] [4] [8] 9 (todo' := [.code (sub (codeOf Tryd.f35) [1, 1])]) (st' := ⟨mkT 9 [(4, .p 8 0)], [(8, .own (ar8 16 z))], 9⟩) (obs := [Ob.call (fun g => List.lookup g []) 63 [.s 0 0 16 16, .s 4 0 16 16] [(0, .own (ar8 16 f)), (4, .own (ar8 16 g))] (useR [(0, 0, 0), (1, 4, 0)] 20 { val := .s 2 0 16 16, upd := [(2, .own (ar8 16 z))], nks := [2] }), Ob.call (fun g => List.lookup g []) 28 [.s 20 0 16 16] [(20, .own (ar8 16 z))] (useR [(0, 20, 0)] 24 { val := .ex (.agg (List.toArray (ar8 16 z))) })]) (by kernel_rfl) (by kernel_rfl) ⟨(CallOK.at0 [(0, 0, 0), (1, 4, 0)] 20 (c1 ) (.cons (.vs rfl (by first | omega | (simp; done) | (simp; omega))) (.cons (.vs rfl (by first | omega | (simp; done) | (simp; omega))) .nil)) (.cons rfl rfl ⟨_, rfl, (by exact cov_all _)⟩ (.cons rfl rfl ⟨_, rfl, (by exact cov_all _)⟩ .nil)) (by kernel_rfl)), (CallOK.at0 [(0, 20, 0)] 24 (c2 ) (.cons (.vs rfl (by first | omega | (simp; done) | (simp; omega))) .nil) (.cons rfl rfl ⟨_, rfl, (by exact cov_all _)⟩ .nil) (by kernel_rfl)), trivial⟩ ?_
  refine AG.fin ([.ex (.agg { toList := ar8 16 z })]) Go.Proofs.Tryd.f35 fn35 (.inr ⟨_, rfl⟩) (obs := [Ob.le 16 16]) (by kernel_rfl) ⟨(Ob.holds_of_dec (by kernel_rfl)), trivial⟩ (by kernel_rfl) trivial (by kernel_rfl)
/-! rounds, told as elements -/
def rE (u k : E) : E := el (rndI (byt u) (byt k))
def rsE (u : E) (l : List E) : E := l.foldl rE u
theorem b8_byt (u : E) : B8 (byt u) := fun i => r8_byt u i
theorem byt_rE (u k : E) (j : Nat) (hj : j < 16) : byt (rE u k) j = rndI (byt u) (byt k) j := byt_el _ (fun i _ => b8_rnd (b8_byt k) i) j hj
theorem rE_nat (u k : E) (j : Nat) (hj : j < 16) : nI (byt (rE u k)) j = rnd (nI (byt u)) (nI (byt k)) j := by
  show (byt (rE u k) j).toNat = _
  rw [byt_rE u k j hj]
  show (((rnd (nI (byt u)) (nI (byt k)) j : Nat) : Int)).toNat = _
  rw [Int.toNat_natCast]
def keysF (l : List E) (x : Nat) : Int := byt (l.getD (x / 16) 0#128) (x % 16)
theorem b8_keysF (l : List E) : B8 (keysF l) := fun i => r8_byt _ _
theorem rnds_rsE (u : E) (l : List E) : ∀ n, n ≤ l.length → ∀ j, j < 16 → rnds (nI (byt u)) (fun i j => nI (keysF l) (16 * i + j)) n j = nI (byt (rsE u (l.take n))) j
  | 0, _ => fun j hj => by rw [List.take_zero]; rfl
  | n + 1, h => fun j hj => by
    have e : l.take (n + 1) = l.take n ++ [l.getD n 0#128] := by
      rw [List.take_add_one, List.getD_eq_getElem?_getD, List.getElem?_eq_getElem (by omega)]; rfl
    have e2 : rsE u (l.take (n + 1)) = rE (rsE u (l.take n)) (l.getD n 0#128) := by unfold rsE; rw [e, List.foldl_append]; rfl
    rw [e2, rE_nat _ _ j hj]
    refine rnd_congr (fun i hi => rnds_rsE u l n (by omega) i hi) (fun i hi => ?_) j hj
    show nI (keysF l) (16 * n + i) = _
    unfold nI keysF
    rw [show (16 * n + i) / 16 = n by omega, show (16 * n + i) % 16 = i by omega]
theorem rndsI_rsE (u : E) (l : List E) : ar8 16 (rndsI (byt u) (keysF l) l.length) = ar8 16 (byt (rsE u l)) := ar8_congr fun j hj => by
  unfold rndsI cI
  rw [rnds_rsE u l l.length (Nat.le_refl _) j hj, List.take_length]
  have := r8_byt (rsE u l) j
  unfold R8 at this; unfold nI; omega
theorem rounds_e {tb : List Value} (ht : tb = tabT) (u : E) (l : List E) (n : Nat) (hl : l.length = n) (hn : n ≤ 100) (cs : List Value) (hc : cs = ar8 (16 * n) (keysF l)) : CallOK Tryd.prog (fun _ => none) 25 [.p 0 0, .ex (.agg (ar8 16 (byt u)).toArray), .sv 1 0 n] [(0, .own tb), (1, .view cs)] { val := .ex (.agg (ar8 16 (byt (rsE u l))).toArray) } := by
  subst hl hc
  have c := rounds_ok ht (byt u) (keysF l) (b8_byt u) (b8_keysF l) l.length hn
  rw [rndsI_rsE] at c
  exact c
theorem rE_inj {u v k : E} (h : rE u k = rE v k) : u = v := by
  refine byt_inj fun j hj => ?_
  have hh : ∀ i, i < 16 → rnd (nI (byt u)) (nI (byt k)) i = rnd (nI (byt v)) (nI (byt k)) i := fun i hi => by rw [← rE_nat u k i hi, ← rE_nat v k i hi, h]
  have e : nI (byt u) j = nI (byt v) j := by
    rw [← unr_rnd (k := nI (byt k)) (byt_nI (b8_byt u)) j hj, ← unr_rnd (k := nI (byt k)) (byt_nI (b8_byt v)) j hj]
    exact unr_congr hh (fun _ _ => rfl) j hj
  have h1 := r8_byt u j
  have h2 := r8_byt v j
  unfold R8 at h1 h2; unfold nI at e; omega
theorem rsE_inj : ∀ (l : List E) {u v : E}, rsE u l = rsE v l → u = v
  | [], _, _, h => h
  | k :: l, _, _, h => rE_inj (rsE_inj l h)
end Go.Proofs.YtfdkdbbigpphcaaDoor.Ab
