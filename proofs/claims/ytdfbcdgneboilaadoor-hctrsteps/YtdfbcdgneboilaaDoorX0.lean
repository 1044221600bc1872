/- Own: the exclusive or of two rows, and rows told place by place (no statement is proved here). -/
import Derived.Test.YtdfbcdgneboilaaDoorO1
import Derived.Test.YtdfbcdgneboilaaDoorN0
import Derived.KernelRfl
namespace Go.Proofs.YtdfbcdgneboilaaDoor.Ab
open Go.Proofs
set_option linter.unusedSimpArgs false
set_option linter.unusedVariables false
theorem fn37 : Tryd.prog.funcs[37]? = some Tryd.f37 := by kernel_rfl
def xr (xs ys : List Int) (j : Nat) : Int := xor8 (bAt xs j) (bAt ys j)
theorem rep_ar8 (n : Nat) : List.replicate n (Value.int .u8 0) = ar8 n (fun _ => 0) := by
  unfold ar8
  rw [List.map_const', List.length_range]
theorem xor_ok (xs ys : List Int) (n : Nat) (hn : n = min xs.length ys.length) (hl : ys.length ≤ 100000) : CallOK Tryd.prog (fun _ => none) 37 [.sv 0 0 xs.length, .sv 1 0 ys.length] [(0, .view (xs.map (Value.int .u8))), (1, .view (ys.map (Value.int .u8)))] { val := .s 2 0 n n, upd := [(2, .own (ar8 n (xr xs ys)))], nks := [2] } := by
  refine CallOK.from0 hmix Tryd.f37 2 fn37 (by kernel_rfl) (by kernel_rfl) (fun w ρ h1 h2 => ?_)
  have em : (if (ys.length : Int) < (xs.length : Int) then (ys.length : Int) else (xs.length : Int)).toNat = n := by
    split <;> omega
  refine AG.rk 3 [0, 1] [0, 1] 2 (todo' := [.code (sub (codeOf Tryd.f37) [1, 0]), .code (sub (codeOf Tryd.f37) [1, 1])]) (st' := ⟨mkT 32 [(0, .sv 0 0 (List.length xs)), (1, .sv 1 0 (List.length ys))], [(0, .view (List.map (Value.int .u8) xs)), (1, .view (List.map (Value.int .u8) ys))], 2⟩) (by kernel_rfl) (by kernel_rfl) ?_
  refine AG.gk [5] [] [0, 1, 5] [0, 1, 22] 23 (st' := ⟨mkT 32 [(0, .sv 0 0 (List.length xs)), (1, .sv 1 0 (List.length ys)), (5, .s 22 0 (Int.toNat (if (↑(List.length ys) : Int) < (↑(List.length xs) : Int) then (↑(List.length ys) : Int) else (↑(List.length xs) : Int))) (Int.toNat (if (↑(List.length ys) : Int) < (↑(List.length xs) : Int) then (↑(List.length ys) : Int) else (↑(List.length xs) : Int))))], [(0, .view (List.map (Value.int .u8) xs)), (1, .view (List.map (Value.int .u8) ys)), (22, .own (List.replicate (Int.toNat (if (↑(List.length ys) : Int) < (↑(List.length xs) : Int) then (↑(List.length ys) : Int) else (↑(List.length xs) : Int))) (Value.int .u8 0)))], 23⟩) (obs := [Ob.ix (if (↑(List.length ys) : Int) < (↑(List.length xs) : Int) then (↑(List.length ys) : Int) else (↑(List.length xs) : Int)) (Int.toNat (if (↑(List.length ys) : Int) < (↑(List.length xs) : Int) then (↑(List.length ys) : Int) else (↑(List.length xs) : Int)) + 1), Ob.ix (if (↑(List.length ys) : Int) < (↑(List.length xs) : Int) then (↑(List.length ys) : Int) else (↑(List.length xs) : Int)) 9223372036854775808, Ob.le (1 * Int.toNat (if (↑(List.length ys) : Int) < (↑(List.length xs) : Int) then (↑(List.length ys) : Int) else (↑(List.length xs) : Int))) 281474976710656]) (by kernel_rfl) (by kernel_rfl) ⟨(by (simp only [Ob.holds]; omega)), (by (simp only [Ob.holds]; omega)), (by (simp only [Ob.holds]; omega)), trivial⟩ ?_
  refine AG.rk 4 [0, 1, 5, 14, 15] [0, 1, 22] 23 (todo' := [.code (sub (codeOf Tryd.f37) [1, 1, 0, 1, 0]), .inBlock 0, .code (sub (codeOf Tryd.f37) [1, 1, 1])]) (st' := ⟨mkT 32 [(0, .sv 0 0 (List.length xs)), (1, .sv 1 0 (List.length ys)), (5, .s 22 0 (Int.toNat (if (↑(List.length ys) : Int) < (↑(List.length xs) : Int) then (↑(List.length ys) : Int) else (↑(List.length xs) : Int))) (Int.toNat (if (↑(List.length ys) : Int) < (↑(List.length xs) : Int) then (↑(List.length ys) : Int) else (↑(List.length xs) : Int)))), (14, .ex (.int .i64 (↑(Int.toNat (if (↑(List.length ys) : Int) < (↑(List.length xs) : Int) then (↑(List.length ys) : Int) else (↑(List.length xs) : Int))) : Int))), (15, .ex (.int .i64 0))], [(0, .view (List.map (Value.int .u8) xs)), (1, .view (List.map (Value.int .u8) ys)), (22, .own (List.replicate (Int.toNat (if (↑(List.length ys) : Int) < (↑(List.length xs) : Int) then (↑(List.length ys) : Int) else (↑(List.length xs) : Int))) (Value.int .u8 0)))], 23⟩) (by kernel_rfl) (by kernel_rfl) ?_
  rewrite [em, rep_ar8]
  refine AG.rk 1 [0, 1, 5, 14, 15] [0, 1, 22] 23 (todo' := [.code (sub (codeOf Tryd.f37) [1, 1, 0, 1, 0, 0]), .inLoop (sub (codeOf Tryd.f37) [1, 1, 0, 1, 0, 0]), .inBlock 0, .code (sub (codeOf Tryd.f37) [1, 1, 1])]) (st' := ⟨mkT 32 [(0, .sv 0 0 (List.length xs)), (1, .sv 1 0 (List.length ys)), (5, .s 22 0 n n), (14, .ex (.int .i64 (↑n : Int))), (15, .ex (.int .i64 0))], [(0, .view (List.map (Value.int .u8) xs)), (1, .view (List.map (Value.int .u8) ys)), (22, .own (ar8 n fun x => 0))], 23⟩) (by kernel_rfl) (by kernel_rfl) ?_
  refine AG.indE (α := {x : Nat × (Nat → Int) // x.1 ≤ n ∧ ∀ j, j < x.1 → x.2 j = xr xs ys j}) (fun x => n - x.1.1)
    (fun x => ⟨mkT 32 [(0, .sv 0 0 xs.length), (1, .sv 1 0 ys.length), (5, .s 22 0 n n), (14, .ex (.int .i64 (n : Int))), (15, .ex (.int .i64 (x.1.1 : Int)))], [(0, .view (List.map (Value.int IntKind.u8) xs)), (1, .view (List.map (Value.int IntKind.u8) ys)), (22, .own (ar8 n x.1.2))], 23⟩) ⟨(0, fun _ => 0), by simp, fun j hj => by simp at hj⟩ (by kernel_rfl) ?_
  rintro ⟨⟨i, f⟩, hi, hf⟩ ih
  simp only at hi hf ih ⊢
  have hla : (ar8 n f).length = n := length_ar8 _ _
  refine AG.rk 3 [0, 1, 5, 14, 15, 16] [0, 1, 22] 23 (todo' := [.code (sub (codeOf Tryd.f37) [1, 1, 0, 1, 0, 0, 1, 0]), .code (sub (codeOf Tryd.f37) [1, 1, 0, 1, 0, 0, 1, 1]), .inLoop (sub (codeOf Tryd.f37) [1, 1, 0, 1, 0, 0]), .inBlock 0, .code (sub (codeOf Tryd.f37) [1, 1, 1])]) (st' := ⟨mkT 32 [(0, .sv 0 0 (List.length xs)), (1, .sv 1 0 (List.length ys)), (5, .s 22 0 n n), (14, .ex (.int .i64 (↑n : Int))), (15, .ex (.int .i64 (↑i : Int))), (16, .ex (.bool (decide ((↑i : Int) < (↑n : Int)))))], [(0, .view (List.map (Value.int .u8) xs)), (1, .view (List.map (Value.int .u8) ys)), (22, .own (ar8 n f))], 23⟩) (by kernel_rfl) (by kernel_rfl) ?_
  refine AG.cond (b := decide ((↑i : Int) < (↑n : Int))) (by kernel_rfl) (fun hc => ?_) (fun hc => ?_)
  · have hi' : i < n := by simp at hc; omega
    clear hc
    have e5 : IntKind.i64.wrap ((i : Int) + 1) = ((i + 1 : Nat) : Int) := by rw [wrap64_id _ (by omega) (by omega)]; omega
    have ea : (List.map (Value.int .u8) xs).getD (0 + (i : Int).toNat * 1) undef = .int .u8 (bAt xs (i : Int)) := by rw [Nat.zero_add, Nat.mul_one]; exact map_get xs _ (by omega) (by omega) _ _
    have eb : (List.map (Value.int .u8) ys).getD (0 + (i : Int).toNat * 1) undef = .int .u8 (bAt ys (i : Int)) := by rw [Nat.zero_add, Nat.mul_one]; exact map_get ys _ (by omega) (by omega) _ _
    refine AG.rk 5 [0, 1, 5, 6, 14, 15] [0, 1, 22] 23 (todo' := [.code (sub (codeOf Tryd.f37) [1, 1, 0, 1, 0, 0, 1, 1, 0, 0, 1]), .inBlock 1, .code (sub (codeOf Tryd.f37) [1, 1, 0, 1, 0, 0, 1, 1, 1]), .inLoop (sub (codeOf Tryd.f37) [1, 1, 0, 1, 0, 0]), .inBlock 0, .code (sub (codeOf Tryd.f37) [1, 1, 1])]) (st' := ⟨mkT 32 [(0, .sv 0 0 (List.length xs)), (1, .sv 1 0 (List.length ys)), (5, .s 22 0 n n), (6, .ex (.int .i64 (↑i : Int))), (14, .ex (.int .i64 (↑n : Int))), (15, .ex (.int .i64 (↑i : Int)))], [(0, .view (List.map (Value.int .u8) xs)), (1, .view (List.map (Value.int .u8) ys)), (22, .own (ar8 n f))], 23⟩) (by kernel_rfl) (by kernel_rfl) ?_
    refine AG.gk [4, 8, 11, 12] [(5, { val := .ex (.int .u8 (bAt xs (↑i : Int))) }), (9, { val := .ex (.int .u8 (bAt ys (↑i : Int))) })] [0, 1, 5, 14, 15] [0, 1, 22] 23 (st' := ⟨mkT 32 [(0, .sv 0 0 (List.length xs)), (1, .sv 1 0 (List.length ys)), (5, .s 22 0 n n), (14, .ex (.int .i64 (↑n : Int))), (15, .ex (.int .i64 (↑i : Int)))], [(0, .view (List.map (Value.int .u8) xs)), (1, .view (List.map (Value.int .u8) ys)), (22, .own (putAt (ar8 n f) (0 + Int.toNat (↑i : Int) * 1) (Value.cells (Value.int .u8 (xor8 (bAt xs (↑i : Int)) (bAt ys (↑i : Int))))).toList))], 23⟩) (obs := [Ob.ix (↑i : Int) (List.length xs), Ob.eq (.ex (List.getD (List.map (Value.int .u8) xs) (0 + Int.toNat (↑i : Int) * 1) undef)) (.ex (.int .u8 (bAt xs (↑i : Int)))), Ob.le (0 + Int.toNat (↑i : Int) * 1 + 1) (List.length (List.map (Value.int .u8) xs)), Ob.ix (↑i : Int) (List.length ys), Ob.eq (.ex (List.getD (List.map (Value.int .u8) ys) (0 + Int.toNat (↑i : Int) * 1) undef)) (.ex (.int .u8 (bAt ys (↑i : Int)))), Ob.le (0 + Int.toNat (↑i : Int) * 1 + 1) (List.length (List.map (Value.int .u8) ys)), Ob.ix (↑i : Int) n, Ob.le (0 + Int.toNat (↑i : Int) * 1 + 1) (List.length (ar8 n f)), Ob.le 1 1, Ob.le 1 1, Ob.one [Value.int .u8 (xor8 (bAt xs (↑i : Int)) (bAt ys (↑i : Int)))]]) (by kernel_rfl) (by kernel_rfl) ⟨(by (simp only [Ob.holds]; omega)), (by simp only [Ob.holds, ea]), (by (simp [Ob.holds]; omega)), (by (simp only [Ob.holds]; omega)), (by simp only [Ob.holds, eb]), (by (simp [Ob.holds]; omega)), (by (simp only [Ob.holds]; omega)), (by (simp only [Ob.holds]; omega)), (Ob.holds_of_dec (by kernel_rfl)), (Ob.holds_of_dec (by kernel_rfl)), (by rfl), trivial⟩ ?_
    refine AG.rk 3 [0, 1, 5, 14, 15] [0, 1, 22] 23 (todo' := [.code (sub (codeOf Tryd.f37) [1, 1, 0, 1, 0, 0]), .inLoop (sub (codeOf Tryd.f37) [1, 1, 0, 1, 0, 0]), .inBlock 0, .code (sub (codeOf Tryd.f37) [1, 1, 1])]) (st' := ⟨mkT 32 [(0, .sv 0 0 (List.length xs)), (1, .sv 1 0 (List.length ys)), (5, .s 22 0 n n), (14, .ex (.int .i64 (↑n : Int))), (15, .ex (.int .i64 (IntKind.wrap .i64 ((↑i : Int) + 1))))], [(0, .view (List.map (Value.int .u8) xs)), (1, .view (List.map (Value.int .u8) ys)), (22, .own (putAt (ar8 n f) (0 + Int.toNat (↑i : Int) * 1) (Value.cells (Value.int .u8 (xor8 (bAt xs (↑i : Int)) (bAt ys (↑i : Int))))).toList))], 23⟩) (by kernel_rfl) (by kernel_rfl) ?_
    have eP : putAt (ar8 n f) (0 + (i : Int).toNat * 1) (Value.int IntKind.u8 (xor8 (bAt xs (i : Int)) (bAt ys (i : Int)))).cells.toList = ar8 n (upd f i (xr xs ys i)) := put_ar8 n f (i : Int) (by omega) (by omega) _
    rw [e5, eP]
    refine ih ⟨(i + 1, upd f i (xr xs ys i)), hi', fun j hj => ?_⟩ (by simp only; omega)
    simp only [upd] at hj ⊢
    split
    · rename_i h; rw [h]
    · exact hf j (by omega)
  · obtain rfl : i = n := by simp at hc; omega
    clear hc ih
    rw [ar8_congr hf]
    refine AG.rk 3 [4] [0, 1, 22] 23 (todo' := [.code (sub (codeOf Tryd.f37) [1, 1, 1, 1])]) (st' := ⟨mkT 32 [(4, .s 22 0 i i)], [(0, .view (List.map (Value.int .u8) xs)), (1, .view (List.map (Value.int .u8) ys)), (22, .own (ar8 i (xr xs ys)))], 23⟩) (by kernel_rfl) (by kernel_rfl) ?_
    refine AG.ren 22 2 (st' := ⟨mkT 32 [(4, .s 2 0 i i)], [(0, .view (List.map (Value.int .u8) xs)), (1, .view (List.map (Value.int .u8) ys)), (2, .own (ar8 i (xr xs ys)))], 23⟩) (by kernel_rfl) (by kernel_rfl) ?_
    refine AG.fin ([.s 2 0 i i]) Go.Proofs.Tryd.f37 fn37 (.inr ⟨_, rfl⟩) (obs := []) (by kernel_rfl) trivial (by kernel_rfl) ⟨(by kernel_rfl), trivial⟩ (by kernel_rfl)
theorem bAt_rng (n : Nat) (f : Nat → Int) (j : Nat) (h : j < n) : bAt ((List.range n).map f) j = f j := by
  rw [bAt_in _ _ (by omega) (by simp; omega)]
  simp [h]
theorem bAt_prt (l : List Int) (d n : Nat) (hn : l.length ≤ d + n) (j : Nat) : bAt (List.take n (List.drop d l)) j = bAt l (d + j : Nat) := by
  by_cases h : d + j < l.length
  · rw [bAt_in _ _ (by omega) (by simp; omega), bAt_in _ _ (by omega) (by omega)]
    have e : ((d + j : Nat) : Int).toNat = d + j := by omega
    rw [e, Int.toNat_natCast, List.getD_eq_getElem?_getD, List.getD_eq_getElem?_getD, List.getElem?_take, if_pos (by omega), List.getElem?_drop]
  · rw [bAt_out _ _ (by simp; omega), bAt_out _ _ (by omega)]
theorem mapr8 (n : Nat) (f : Nat → Int) : ((List.range n).map f).map (Value.int .u8) = ar8 n f := by rw [List.map_map]; rfl
theorem ovr_ar8 (L a n : Nat) (f g : Nat → Int) (h : a + n ≤ L) : ovr (ar8 L f) a (ar8 n g) = ar8 L (fun j => if a ≤ j ∧ j < a + n then g (j - a) else f j) := by
  have la : (ar8 L f).length = L := length_ar8 _ _
  have ln : (ar8 n g).length = n := length_ar8 _ _
  refine eq_ar8 (by rw [length_ovr _ _ _ (by omega), la]) fun j hj => ?_
  unfold ovr
  rw [ln]
  by_cases h1 : j < a
  · rw [List.append_assoc, List.getElem?_append_left (by simp; omega), List.getElem?_take, if_pos h1, getElem_ar8 _ _ _ hj, if_neg (by omega)]
  · by_cases h2 : j < a + n
    · rw [List.append_assoc, List.getElem?_append_right (by simp; omega), List.getElem?_append_left (by simp; omega), List.length_take, la, show j - min a L = j - a by omega, getElem_ar8 _ _ _ (by omega), if_pos ⟨by omega, h2⟩]
    · rw [List.getElem?_append_right (by simp; omega), List.getElem?_drop]
      simp only [List.length_append, List.length_take, la, ln]
      rw [show a + n + (j - (min a L + n)) = j by omega, getElem_ar8 _ _ _ hj, if_neg (by omega)]
theorem ar8_bAt (bs : List Int) : ar8 bs.length (fun j => bAt bs j) = bs.map (Value.int .u8) := by
  symm
  refine eq_ar8 (by simp) fun i hi => ?_
  rw [bAt_in bs _ (by omega) (by omega)]
  simp [List.getElem?_eq_getElem hi]
def xr2 (a b : Nat → Int) (j : Nat) : Int := xor8 (a j) (b j)
theorem b8_xr2 (a b : Nat → Int) (j : Nat) : R8 (xr2 a b j) := r8_xor8 _ _
theorem xor16_ok (f g : Nat → Int) : CallOK Tryd.prog (fun _ => none) 37 [.sv 0 0 16, .sv 1 0 16] [(0, .view (ar8 16 f)), (1, .view (ar8 16 g))] { val := .s 2 0 16 16, upd := [(2, .own (ar8 16 (xr2 f g)))], nks := [2] } := by
  have h := xor_ok ((List.range 16).map f) ((List.range 16).map g) 16 (by simp) (by simp)
  rw [mapr8, mapr8, List.length_map, List.length_map, List.length_range, ar8_congr (s := xr ((List.range 16).map f) ((List.range 16).map g)) (t := xr2 f g) fun i hi => by unfold xr xr2; rw [bAt_rng _ _ _ hi, bAt_rng _ _ _ hi]] at h
  exact h
theorem oblock16 (c : Nat → Int) : CallOK Tryd.prog (fun _ => none) 20 [.sv 0 0 16] [(0, .view (ar8 16 c))] { val := .ex (.agg (ar8 16 c).toArray) } := by
  have h := oblock_ok ((List.range 16).map c)
  rw [mapr8, List.length_map, List.length_range, ar8_congr (s := fun i => bAt ((List.range 16).map c) i) (t := c) fun i hi => bAt_rng 16 c i hi] at h
  exact h
end Go.Proofs.YtdfbcdgneboilaaDoor.Ab
