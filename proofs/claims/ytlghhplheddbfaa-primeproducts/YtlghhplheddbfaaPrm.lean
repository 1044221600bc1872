/- Own: 2^130 - 5 is a prime: a chain of certificates (no statement is proved here). -/
import Derived.KernelRfl
namespace Go.Proofs.Ytlghhplheddbfaa.Prm

theorem pigeon : ∀ (r q : Nat) (f : Nat → Nat), (∀ i, i < q → f i < r) → (∀ i j, i < q → j < q → f i = f j → i = j) → q ≤ r
  | 0, q, f, h, _ => by
    rcases Nat.eq_zero_or_pos q with e | e
    · omega
    · have := h 0 e; omega
  | r + 1, 0, f, h, hi => by omega
  | r + 1, q + 1, f, h, hi => by
    have := pigeon r q (fun i => if f i = r then f q else f i) (fun i hq => by
      show (if f i = r then f q else f i) < r
      split
      · rename_i e
        have h1 := h q (by omega)
        have : f q ≠ r := fun e' => by have := hi i q (by omega) (by omega) (e.trans e'.symm); omega
        omega
      · have := h i (by omega); omega) (fun i j h1 h2 e => by
      have e : (if f i = r then f q else f i) = (if f j = r then f q else f j) := e
      split at e <;> split at e
      · exact hi i j (by omega) (by omega) (by omega)
      · have := hi q j (by omega) (by omega) e; omega
      · have := hi i q (by omega) (by omega) e; omega
      · exact hi i j (by omega) (by omega) e)
    omega
/-- Exponents that bring 1 have a greatest common part that does. -/
theorem pow_gcd (b r : Nat) (d e : Nat) : b ^ d % r = 1 % r → b ^ e % r = 1 % r → b ^ Nat.gcd d e % r = 1 % r := by
  induction d, e using Nat.gcd.induction with
  | H0 n => intro _ h; simpa using h
  | H1 m n hm ih =>
    intro h1 h2
    rw [Nat.gcd_rec]
    refine ih ?_ h1
    have e : b ^ n = (b ^ m) ^ (n / m) * b ^ (n % m) := by rw [← Nat.pow_mul, ← Nat.pow_add, Nat.div_add_mod]
    rw [e, Nat.mul_mod, Nat.pow_mod, h1, ← Nat.pow_mod, Nat.one_pow, ← Nat.mul_mod, Nat.one_mul] at h2
    exact h2
/-- Numbers without parts. -/
def NoDiv (n : Nat) : Prop := ∀ d, d ∣ n → d = 1 ∨ d = n
/-- From whatever divides n on, there are as many powers. -/
theorem pock_ge (n F m a : Nat) (L : List Nat) (hL : ∀ g, g ∣ F → g ≠ F → ∃ e ∈ L, g ∣ e) (hn : n = F * m + 1) (h1 : a ^ (F * m) % n = 1)
    (hg : ∀ e ∈ L, Nat.gcd ((a ^ m) ^ e % n + F * m) n = 1) (r : Nat) (hr : r ∣ n) (hr1 : 1 < r) : F ≤ r := by
  have hbF : (a ^ m) ^ F % r = 1 % r := by
    rw [← Nat.pow_mul, Nat.mul_comm, ← Nat.mod_mod_of_dvd _ hr, h1]
  have hbe : ∀ e ∈ L, (a ^ m) ^ e % r ≠ 1 % r := by
    intro e he hc
    have := hg e he
    have h2 : r ∣ (a ^ m) ^ e % n + F * m := by
      apply Nat.dvd_of_mod_eq_zero
      rw [Nat.add_mod, Nat.mod_mod_of_dvd _ hr, hc, ← Nat.add_mod, Nat.add_comm, ← hn]
      exact Nat.mod_eq_zero_of_dvd hr
    have h3 := Nat.dvd_gcd h2 hr
    rw [this] at h3
    have := Nat.le_of_dvd (by decide) h3
    omega
  generalize hb : a ^ m = b at hbF hbe
  refine Nat.le_of_not_lt fun hlt => ?_
  have hlt' := hlt
  refine absurd (pigeon r F (fun i => b ^ i % r) (fun i _ => Nat.mod_lt _ (by omega)) ?_) (by omega)
  have key : ∀ i j, i < j → j < F → b ^ i % r = b ^ j % r → False := by
    intro i j hij hj e
    have e1 : b ^ j * b ^ (F - i) = b ^ F * b ^ (j - i) := by rw [← Nat.pow_add, ← Nat.pow_add]; congr 1; omega
    have e2 : b ^ i * b ^ (F - i) = b ^ F := by rw [← Nat.pow_add]; congr 1; omega
    have e3 : b ^ (j - i) % r = 1 % r := by
      have a1 : (b ^ j * b ^ (F - i)) % r = 1 % r := by rw [Nat.mul_mod, ← e, ← Nat.mul_mod, e2, hbF]
      rw [e1, Nat.mul_mod, hbF, ← Nat.mul_mod, Nat.one_mul] at a1
      exact a1
    have e4 := pow_gcd b r _ _ e3 hbF
    have hgd : Nat.gcd (j - i) F ∣ F := Nat.gcd_dvd_right _ _
    have hne : Nat.gcd (j - i) F ≠ F := fun h => by
      have := Nat.le_of_dvd (by omega) (Nat.gcd_dvd_left (j - i) F)
      omega
    obtain ⟨e, he, k, hk⟩ := hL _ hgd hne
    refine hbe e he ?_
    rw [hk, Nat.pow_mul, Nat.pow_mod, e4, ← Nat.pow_mod, Nat.one_pow]
  intro i j h1 h2 e
  rcases Nat.lt_trichotomy i j with h | h | h
  · exact (key i j h h2 e).elim
  · exact h
  · exact (key j i h h1 e.symm).elim
theorem pock0 (n F m a : Nat) (L : List Nat) (hL : ∀ g, g ∣ F → g ≠ F → ∃ e ∈ L, g ∣ e) (hn : n = F * m + 1) (h1 : a ^ (F * m) % n = 1)
    (hg : ∀ e ∈ L, Nat.gcd ((a ^ m) ^ e % n + F * m) n = 1) (hlt : n < F * F) : NoDiv n := by
  intro d hd
  by_cases h : d = 1
  · exact .inl h
  by_cases h' : d = n
  · exact .inr h'
  exfalso
  have hn0 : 0 < n := by omega
  obtain ⟨e, he⟩ := hd
  have hd0 : d ≠ 0 := fun h0 => by rw [h0, Nat.zero_mul] at he; omega
  have he0 : e ≠ 0 := fun h0 => by rw [h0, Nat.mul_zero] at he; omega
  have he1 : e ≠ 1 := fun h0 => by rw [h0, Nat.mul_one] at he; omega
  have a1 := pock_ge n F m a L hL hn h1 hg d ⟨e, he⟩ (by omega)
  have a2 := pock_ge n F m a L hL hn h1 hg e ⟨d, by rw [he, Nat.mul_comm]⟩ (by omega)
  have := Nat.mul_le_mul a1 a2
  omega
theorem one_parts {q : Nat} (hq : NoDiv q) : ∀ g, g ∣ q → g ≠ q → ∃ e ∈ [1], g ∣ e := fun g h h' => by
  rcases hq g h with e | e
  · exact ⟨1, by simp, e ▸ Nat.dvd_refl _⟩
  · exact absurd e h'
theorem two_parts {q r : Nat} (hq : NoDiv q) (hr : NoDiv r) : ∀ g, g ∣ q * r → g ≠ q * r → ∃ e ∈ [q, r], g ∣ e := fun g h h' => by
  by_cases hd : q ∣ g
  · obtain ⟨k, rfl⟩ := hd
    refine ⟨q, by simp, ?_⟩
    rcases Nat.eq_zero_or_pos q with h0 | h0
    · subst h0; simp
    · have hk := Nat.dvd_of_mul_dvd_mul_left h0 h
      rcases hr k hk with e | e
      · subst e; simp
      · exact absurd (by rw [e]) h'
  · refine ⟨r, by simp, ?_⟩
    have hg : Nat.gcd g q = 1 := by
      rcases hq _ (Nat.gcd_dvd_right g q) with e | e
      · exact e
      · exact absurd (e ▸ Nat.gcd_dvd_left g q) hd
    exact Nat.Coprime.dvd_of_dvd_mul_left hg h
/-- A small one: no number up to its root divides it. -/
def smallB (n k : Nat) : Bool := (List.range k).all fun i => i < 2 || !(Nat.beq (n % i) 0)
theorem small_noDiv (n k : Nat) (hn : 1 < n) (hk : n < k * k) (h : smallB n k = true) : NoDiv n := by
  have key : ∀ i, 2 ≤ i → i < k → ¬ i ∣ n := by
    intro i h2 hik hd
    have := List.all_eq_true.1 h i (by simpa using hik)
    have e := Nat.mod_eq_zero_of_dvd hd
    rw [e] at this
    simp at this
    omega
  intro d hd
  by_cases h1 : d = 1
  · exact .inl h1
  by_cases h2 : d = n
  · exact .inr h2
  exfalso
  obtain ⟨e, he⟩ := hd
  have hd0 : d ≠ 0 := fun h0 => by rw [h0, Nat.zero_mul] at he; omega
  have he0 : e ≠ 0 := fun h0 => by rw [h0, Nat.mul_zero] at he; omega
  have he1 : e ≠ 1 := fun h0 => by rw [h0, Nat.mul_one] at he; omega
  have a1 : k ≤ d := Nat.le_of_not_lt fun h => key d (by omega) h ⟨e, he⟩
  have a2 : k ≤ e := Nat.le_of_not_lt fun h => key e (by omega) h ⟨d, by rw [he, Nat.mul_comm]⟩
  have := Nat.mul_le_mul a1 a2
  omega
/-- Powers, squared and multiplied. -/
def pm (n : Nat) : Nat → Nat → Nat → Nat → Nat
  | 0, _, _, acc => acc
  | f + 1, b, e, acc => pm n f (b * b % n) (e / 2) (if Nat.beq (e % 2) 1 then acc * b % n else acc)
theorem pm_eq (n : Nat) : ∀ (f b e acc : Nat), e < 2 ^ f → pm n f b e acc % n = acc * b ^ e % n
  | 0, b, e, acc, h => by
    have : e = 0 := by simpa using h
    subst this; simp [pm]
  | f + 1, b, e, acc, h => by
    have h2 : e / 2 < 2 ^ f := by rw [Nat.pow_succ] at h; omega
    unfold pm
    rw [pm_eq n f _ _ _ h2]
    have hb : ∀ x : Nat, x * (b * b % n) ^ (e / 2) % n = x * (b * b) ^ (e / 2) % n := fun x => by
      rw [Nat.mul_mod, ← Nat.pow_mod, ← Nat.mul_mod]
    rw [hb]
    have hs : (b * b) ^ (e / 2) = b ^ (2 * (e / 2)) := by rw [Nat.pow_mul, Nat.pow_two]
    rw [hs]
    rcases Nat.mod_two_eq_zero_or_one e with h0 | h0
    · rw [h0]
      simp only [Nat.beq, Bool.false_eq_true, if_false]
      congr 2
      rw [show 2 * (e / 2) = e by omega]
    · rw [h0]
      simp only [Nat.beq, if_true]
      rw [Nat.mul_mod, Nat.mod_mod, ← Nat.mul_mod, Nat.mul_assoc, ← Nat.pow_succ', show (2 * (e / 2)).succ = e by omega]
theorem pow_by {n a e v f : Nat} (hf : e < 2 ^ f) (h : pm n f (a % n) e 1 % n = v) : a ^ e % n = v := by
  rw [pm_eq n f _ _ _ hf, Nat.one_mul, ← Nat.pow_mod] at h
  exact h
/-- A certificate. -/
def cert (n F m a f : Nat) (L : List Nat) : Bool :=
  Nat.beq n (F * m + 1) && Nat.blt (F * m) (2 ^ f) && Nat.beq (pm n f (a % n) (F * m) 1 % n) 1 && (L.all fun e => Nat.blt (m * e) (2 ^ f) && Nat.beq (Nat.gcd (pm n f (a % n) (m * e) 1 % n + F * m) n) 1) && Nat.blt n (F * F)
theorem pock (n F m a f : Nat) (L : List Nat) (hL : ∀ g, g ∣ F → g ≠ F → ∃ e ∈ L, g ∣ e) (h : cert n F m a f L = true) : NoDiv n := by
  unfold cert at h
  simp only [Bool.and_eq_true, Nat.beq_eq, List.all_eq_true] at h
  obtain ⟨⟨⟨⟨h2, h3⟩, h4⟩, h5⟩, h6⟩ := h
  have lt : ∀ {x y : Nat}, Nat.blt x y = true → x < y := fun h => Nat.le_of_ble_eq_true h
  refine pock0 n F m a L hL h2 (pow_by (lt h3) h4) (fun e he => ?_) (lt h6)
  have h7 := h5 e he
  rw [← Nat.pow_mul, pow_by (lt h7.1) rfl]
  exact h7.2
theorem p37003 : NoDiv 37003 := small_noDiv _ 193 (by decide) (by decide) (by kernel_rfl)
theorem p221101 : NoDiv 221101 := small_noDiv _ 471 (by decide) (by decide) (by kernel_rfl)
theorem p62 : NoDiv 4024685905107147541 := pock _ (221101 * 37003) 491931180 2 62 [221101, 37003] (two_parts p221101 p37003) (by kernel_rfl)
theorem p100 : NoDiv 897064739519922787230182993783 := pock _ 4024685905107147541 222890620702 2 100 [1] (one_parts p62) (by kernel_rfl)
theorem p130 : NoDiv 1361129467683753853853498429727072845819 := pock _ 897064739519922787230182993783 1517314646 2 131 [1] (one_parts p100) (by kernel_rfl)
/-- It divides a product only if it divides one of both. -/
theorem dvd_mul {a b : Nat} (h : 1361129467683753853853498429727072845819 ∣ a * b) : 1361129467683753853853498429727072845819 ∣ a ∨ 1361129467683753853853498429727072845819 ∣ b := by
  rcases p130 _ (Nat.gcd_dvd_left 1361129467683753853853498429727072845819 a) with e | e
  · exact .inr (Nat.Coprime.dvd_of_dvd_mul_left e h)
  · exact .inl (e ▸ Nat.gcd_dvd_right _ _)
end Go.Proofs.Ytlghhplheddbfaa.Prm
