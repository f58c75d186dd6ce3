/- Plain mathematics of layer 1: numbers modulo three primes; powers by squares; Fermat's theorem for the three primes by the powers of 3. No condition; nothing of the program. -/
namespace Go.Proofs.YtcppcfbcgopmoaaDoor.Res

/-- The primes. -/
def pr (k : Int) : Int := if k = 0 then 998244353 else if k = 1 then 167772161 else if k = 2 then 469762049 else 0
/-- A number modulo prime k; 0, if there is none. -/
def md (k a : Int) : Int := if pr k = 0 then 0 else a % pr k

theorem pr_cases (k : Int) : (k = 0 ∧ pr k = 998244353) ∨ (k = 1 ∧ pr k = 167772161) ∨ (k = 2 ∧ pr k = 469762049) ∨ ((k < 0 ∨ 3 ≤ k) ∧ pr k = 0) := by
  unfold pr
  by_cases h0 : k = 0
  · simp [h0]
  by_cases h1 : k = 1
  · simp [h1]
  by_cases h2 : k = 2
  · simp [h2]
  simp [h0, h1, h2]; omega
theorem pr_bd (k : Int) : 0 ≤ pr k ∧ pr k ≤ 998244353 := by
  rcases pr_cases k with ⟨_, h⟩ | ⟨_, h⟩ | ⟨_, h⟩ | ⟨_, h⟩ <;> rw [h] <;> omega
theorem pr_pos {k : Int} (h : pr k ≠ 0) : 167772161 ≤ pr k := by
  rcases pr_cases k with ⟨_, h⟩ | ⟨_, h⟩ | ⟨_, h⟩ | ⟨_, h⟩ <;> omega
theorem md_none {k : Int} (h : pr k = 0) (a : Int) : md k a = 0 := by simp [md, h]
theorem md_some {k : Int} (h : pr k ≠ 0) (a : Int) : md k a = a % pr k := by simp [md, h]
theorem md_nonneg (k a : Int) : 0 ≤ md k a := by
  unfold md; split
  · omega
  · exact Int.emod_nonneg _ ‹_›
theorem md_lt {k : Int} (h : pr k ≠ 0) (a : Int) : md k a < pr k := by
  rw [md_some h]; exact Int.emod_lt_of_pos _ (by have := pr_pos h; omega)
theorem md_le (k a : Int) : md k a ≤ 998244352 := by
  by_cases h : pr k = 0
  · rw [md_none h]; omega
  · have := md_lt h a; have := pr_bd k; omega
theorem md_le_pr (k a : Int) : md k a ≤ pr k := by
  by_cases h : pr k = 0
  · rw [md_none h]; omega
  · have := md_lt h a; omega
theorem md_of_lt {k a : Int} (h0 : 0 ≤ a) (h : a < pr k) : md k a = a := by
  have hp : pr k ≠ 0 := by omega
  rw [md_some hp]; exact Int.emod_eq_of_lt h0 h
theorem md_md (k a : Int) : md k (md k a) = md k a := by
  by_cases h : pr k = 0
  · simp [md_none h]
  · exact md_of_lt (md_nonneg _ _) (md_lt h a)
theorem md_add (k a b : Int) : md k (md k a + md k b) = md k (a + b) := by
  by_cases h : pr k = 0
  · simp [md_none h]
  · simp only [md_some h]; exact (Int.add_emod a b (pr k)).symm
theorem md_mul (k a b : Int) : md k (md k a * md k b) = md k (a * b) := by
  by_cases h : pr k = 0
  · simp [md_none h]
  · simp only [md_some h]; exact (Int.mul_emod a b (pr k)).symm
theorem md_sub (k a b : Int) : md k (md k a + pr k - md k b) = md k (a - b) := by
  by_cases h : pr k = 0
  · simp [md_none h]
  · simp only [md_some h]
    rw [show a % pr k + pr k - b % pr k = a % pr k - b % pr k + pr k by omega, Int.add_emod_right]
    exact (Int.sub_emod a b (pr k)).symm
theorem md_mul_l (k a b : Int) : md k (md k a * b) = md k (a * b) := by rw [← md_mul k (md k a) b, md_md, md_mul]
theorem md_mul_r (k a b : Int) : md k (a * md k b) = md k (a * b) := by rw [← md_mul k a (md k b), md_md, md_mul]
theorem md_add_l (k a b : Int) : md k (md k a + b) = md k (a + b) := by rw [← md_add k (md k a) b, md_md, md_add]
theorem md_add_r (k a b : Int) : md k (a + md k b) = md k (a + b) := by rw [← md_add k a (md k b), md_md, md_add]
theorem md_sub_l (k a b : Int) : md k (md k a - b) = md k (a - b) := by rw [← md_sub k (md k a) b, md_md, md_sub]
theorem md_pow (k a : Int) (n : Nat) : md k (md k a ^ n) = md k (a ^ n) := by
  induction n with
  | zero => rw [Int.pow_zero, Int.pow_zero]
  | succ n ih => rw [Int.pow_succ, Int.pow_succ, ← md_mul, ih, md_md, md_mul]
/-- The sum's residue, as the program says it. -/
theorem md_cong {k a b : Int} (h : md k a = md k b) (c : Int) : md k (a * c) = md k (b * c) := by rw [← md_mul_l, h, md_mul_l]

/-! powers by squares -/
theorem sq_pow (s : Int) (n : Nat) : (s * s) ^ n = s ^ (2 * n) := by rw [Int.pow_mul, Int.pow_succ, Int.pow_succ, Int.pow_zero, Int.one_mul]
/-- One round of the program's loop at an odd exponent. -/
theorem step_odd (k p s : Int) (n : Nat) (h : n % 2 = 1) : md k (md k (p * s) * (md k (s * s)) ^ (n / 2)) = md k (p * s ^ n) := by
  rw [md_mul_l, ← md_mul_r, md_pow, md_mul_r, sq_pow, Int.mul_assoc, Int.mul_comm s, ← Int.pow_succ, show (2 * (n / 2)).succ = n by omega]
theorem step_even (k p s : Int) (n : Nat) (h : n % 2 = 0) : md k (p * (md k (s * s)) ^ (n / 2)) = md k (p * s ^ n) := by
  rw [← md_mul_r, md_pow, md_mul_r, sq_pow, show 2 * (n / 2) = n by omega]
/-- The document's way: half of the exponent first. -/
theorem half_odd (k a : Int) (n : Nat) (h : n % 2 = 1) : md k (md k (md k (a ^ (n / 2)) * md k (a ^ (n / 2))) * a) = md k (a ^ n) := by
  rw [md_mul, ← Int.pow_add, md_mul_l, ← Int.pow_succ, show (n / 2 + n / 2).succ = n by omega]
theorem half_even (k a : Int) (n : Nat) (h : n % 2 = 0) : md k (md k (a ^ (n / 2)) * md k (a ^ (n / 2))) = md k (a ^ n) := by
  rw [md_mul, ← Int.pow_add, show n / 2 + n / 2 = n by omega]

/-! an injective function of finitely many numbers meets each -/
theorem surj_of_inj (n : Nat) : ∀ (f : Nat → Nat), (∀ i, i < n → f i < n) → (∀ i j, i < n → j < n → f i = f j → i = j) → ∀ y, y < n → ∃ i, i < n ∧ f i = y := by
  induction n with
  | zero => intro f _ _ y hy; omega
  | succ m ih =>
    intro f hf inj y hy
    have hm := hf m (by omega)
    have ih' := ih (fun i => if f i = m then f m else f i)
      (fun i hi => by
        show (if f i = m then f m else f i) < m
        split
        · rename_i e
          have : f m ≠ m := fun e2 => by have := inj i m (by omega) (by omega) (by omega); omega
          omega
        · have := hf i (by omega); omega)
      (fun i j hi hj e => by
        have e' : (if f i = m then f m else f i) = (if f j = m then f m else f j) := e
        split at e' <;> split at e'
        · exact inj i j (by omega) (by omega) (by omega)
        · have := inj m j (by omega) (by omega) e'; omega
        · have := inj i m (by omega) (by omega) e'; omega
        · exact inj i j (by omega) (by omega) e')
    by_cases h1 : y = f m
    · exact ⟨m, by omega, h1.symm⟩
    by_cases h2 : y = m
    · obtain ⟨i, hi, e⟩ := ih' (f m) (by omega)
      have e' : (if f i = m then f m else f i) = f m := e
      split at e'
      · exact ⟨i, by omega, by omega⟩
      · have := inj i m (by omega) (by omega) e'; omega
    · obtain ⟨i, hi, e⟩ := ih' y (by omega)
      have e' : (if f i = m then f m else f i) = y := e
      split at e'
      · omega
      · exact ⟨i, by omega, e'⟩

/-! orders -/
theorem pow_one_mod {p g x : Nat} (h : g ^ x % p = 1 % p) (t : Nat) : g ^ (x * t) % p = 1 % p := by
  rw [Nat.pow_mul, Nat.pow_mod, h, ← Nat.pow_mod, Nat.one_pow]
theorem ord_sub {p g x y : Nat} (hx : g ^ x % p = 1 % p) (hxy : g ^ (x + y) % p = 1 % p) : g ^ y % p = 1 % p := by
  rw [Nat.pow_add, Nat.mul_mod, hx, ← Nat.mul_mod, Nat.one_mul] at hxy
  exact hxy
theorem ord_mod {p g x y : Nat} (hx : g ^ x % p = 1 % p) (hy : g ^ y % p = 1 % p) : g ^ (y % x) % p = 1 % p := by
  refine ord_sub (x := x * (y / x)) (pow_one_mod hx _) ?_
  rw [Nat.div_add_mod]; exact hy
theorem ord_gcd {p g : Nat} : ∀ (x y : Nat), g ^ x % p = 1 % p → g ^ y % p = 1 % p → g ^ (Nat.gcd x y) % p = 1 % p := by
  intro x y
  induction x, y using Nat.gcd.induction with
  | H0 y => intro _ hy; rwa [Nat.gcd_zero_left]
  | H1 x y hx ih => intro h1 h2; rw [Nat.gcd_rec]; exact ih (ord_mod h1 h2) h1
theorem fermat_of (p g : Nat) (hp : 1 < p) (h1 : g ^ (p - 1) % p = 1) (hq : ∀ d, 0 < d → d < p - 1 → g ^ d % p ≠ 1) (a : Nat) (ha : a % p ≠ 0) : a ^ (p - 1) % p = 1 := by
  have hone : 1 % p = 1 := Nat.mod_eq_of_lt hp
  have hnz : ∀ i, i < p - 1 → g ^ i % p ≠ 0 := by
    intro i hi e
    have : g ^ (p - 1) % p = 0 := by
      rw [show p - 1 = i + (p - 1 - i) by omega, Nat.pow_add, Nat.mul_mod, e, Nat.zero_mul, Nat.zero_mod]
    omega
  have key : ∀ i j, i < j → j < p - 1 → g ^ i % p ≠ g ^ j % p := by
    intro i j hij hj e
    refine hq (j - i) (by omega) (by omega) ?_
    rw [← hone]
    refine ord_sub (x := p - 1) (by rw [h1, hone]) ?_
    rw [show p - 1 + (j - i) = (p - 1 - i) + j by omega, Nat.pow_add, Nat.mul_mod, ← e, ← Nat.mul_mod, ← Nat.pow_add, show p - 1 - i + i = p - 1 by omega, h1, hone]
  obtain ⟨i, hi, e⟩ := surj_of_inj (p - 1) (fun i => g ^ i % p - 1)
    (fun i hi => by have := Nat.mod_lt (g ^ i) (show 0 < p by omega); have := hnz i hi; show g ^ i % p - 1 < p - 1; omega)
    (fun i j hi hj e => by
      have e0 : g ^ i % p - 1 = g ^ j % p - 1 := e
      have e' : g ^ i % p = g ^ j % p := by have := hnz i hi; have := hnz j hj; omega
      rcases Nat.lt_trichotomy i j with h | h | h
      · exact absurd e' (key i j h hj)
      · exact h
      · exact absurd e'.symm (key j i h hi))
    (a % p - 1) (by have := Nat.mod_lt a (show 0 < p by omega); omega)
  have e0 : g ^ i % p - 1 = a % p - 1 := e
  have e1 : g ^ i % p = a % p := by have := hnz i hi; omega
  rw [Nat.pow_mod, ← e1, ← Nat.pow_mod, ← Nat.pow_mul, Nat.mul_comm]
  exact (pow_one_mod (by rw [h1, hone]) i).trans hone

/-! powers modulo p, reckoned by squares -/
def pm (p : Nat) : Nat → Nat → Nat → Nat
  | 0, _, _ => 1 % p
  | f + 1, a, n => if n % 2 = 1 then a * pm p f (a * a % p) (n / 2) % p else pm p f (a * a % p) (n / 2)
theorem pm_eq (p : Nat) : ∀ (f a n : Nat), n < 2 ^ f → pm p f a n = a ^ n % p
  | 0, a, n, h => by
    have : n = 0 := by simpa using h
    subst this; simp [pm]
  | f + 1, a, n, h => by
    have ih := pm_eq p f (a * a % p) (n / 2) (by rw [Nat.pow_succ] at h; omega)
    have e : (a * a % p) ^ (n / 2) % p = a ^ (2 * (n / 2)) % p := by
      rw [← Nat.pow_mod, Nat.pow_mul, Nat.pow_succ, Nat.pow_one]
    unfold pm
    rw [ih, e]
    split
    · rename_i h1
      rw [Nat.mul_mod_mod, Nat.mul_comm, ← Nat.pow_succ, show (2 * (n / 2)).succ = n by omega]
    · rw [show 2 * (n / 2) = n by omega]
theorem dvd_small {q m : Nat} (hq : ∀ d, d ∣ q → d = 1 ∨ d = q) (h : ¬ q ∣ m) : Nat.Coprime m q := by
  rcases hq (Nat.gcd m q) (Nat.gcd_dvd_right m q) with e | e
  · exact e
  · exact absurd (e ▸ Nat.gcd_dvd_left m q) h
theorem small2 : ∀ d, d ∣ 2 → d = 1 ∨ d = 2 := fun d h => by
  have := Nat.le_of_dvd (by omega) h
  rcases h with ⟨c, hc⟩
  match d, this with
  | 0, _ => omega
  | 1, _ => exact .inl rfl
  | 2, _ => exact .inr rfl
theorem small5 : ∀ d, d ∣ 5 → d = 1 ∨ d = 5 := fun d h => by
  have := Nat.le_of_dvd (by omega) h
  rcases h with ⟨c, hc⟩
  match d, this with
  | 0, _ | 2, _ | 3, _ | 4, _ => omega
  | 1, _ => exact .inl rfl
  | 5, _ => exact .inr rfl
theorem small7 : ∀ d, d ∣ 7 → d = 1 ∨ d = 7 := fun d h => by
  have := Nat.le_of_dvd (by omega) h
  rcases h with ⟨c, hc⟩
  match d, this with
  | 0, _ | 2, _ | 3, _ | 4, _ | 5, _ | 6, _ => omega
  | 1, _ => exact .inl rfl
  | 7, _ => exact .inr rfl
theorem small17 : ∀ d, d ∣ 17 → d = 1 ∨ d = 17 := fun d h => by
  have := Nat.le_of_dvd (by omega) h
  rcases h with ⟨c, hc⟩
  have : d = 0 ∨ d = 1 ∨ d = 2 ∨ d = 3 ∨ d = 4 ∨ d = 5 ∨ d = 6 ∨ d = 7 ∨ d = 8 ∨ d = 9 ∨ d = 10 ∨ d = 11 ∨ d = 12 ∨ d = 13 ∨ d = 14 ∨ d = 15 ∨ d = 16 ∨ d = 17 := by omega
  rcases this with h | h | h | h | h | h | h | h | h | h | h | h | h | h | h | h | h | h <;> subst h <;> omega
/-- No lesser power is 1, if none of the greatest parts' is. -/
theorem least_of (p g n x : Nat) (qs : List Nat) (hone : 1 % p = 1)
    (h1 : g ^ n % p = 1) (cop : ∀ m, (∀ q, q ∈ qs → ¬ q ∣ m) → Nat.Coprime m n)
    (hq : ∀ q, q ∈ qs → 0 < q ∧ g ^ (n / q) % p ≠ 1) (h0 : 0 < x) (hx : x < n) : g ^ x % p ≠ 1 := by
  intro e
  have eg := ord_gcd x n (by rw [e, hone]) (by rw [h1, hone])
  obtain ⟨m, hm⟩ := Nat.gcd_dvd_right x n
  have hle : Nat.gcd x n ≤ x := Nat.le_of_dvd h0 (Nat.gcd_dvd_left x n)
  have hm1 : m ≠ 1 := fun e1 => by rw [e1, Nat.mul_one] at hm; omega
  have : ∃ q, q ∈ qs ∧ q ∣ m := by
    refine Classical.byContradiction fun hno => hm1 ?_
    have hc := cop m (fun q hqs hd => hno ⟨q, hqs, hd⟩)
    exact Nat.Coprime.eq_one_of_dvd hc ⟨Nat.gcd x n, by rw [Nat.mul_comm]; exact hm⟩
  obtain ⟨q, hqs, c, hc⟩ := this
  obtain ⟨q0, hne⟩ := hq q hqs
  refine hne ?_
  have : n / q = Nat.gcd x n * c := by
    rw [hc] at hm
    refine Nat.div_eq_of_eq_mul_right q0 ?_
    exact hm.trans (Nat.mul_left_comm _ _ _)
  rw [this]
  exact (pow_one_mod eg c).trans hone
theorem cop3 {m a q r : Nat} (sq : ∀ d, d ∣ q → d = 1 ∨ d = q) (sr : ∀ d, d ∣ r → d = 1 ∨ d = r) (h : ∀ x, x ∈ [2, q, r] → ¬ x ∣ m) : Nat.Coprime m (2 ^ a * q * r) :=
  Nat.Coprime.mul_right (Nat.Coprime.mul_right (Nat.Coprime.pow_right _ (dvd_small small2 (h 2 (by simp)))) (dvd_small sq (h q (by simp)))) (dvd_small sr (h r (by simp)))
theorem cop2 {m a q : Nat} (sq : ∀ d, d ∣ q → d = 1 ∨ d = q) (h : ∀ x, x ∈ [2, q] → ¬ x ∣ m) : Nat.Coprime m (2 ^ a * q) :=
  Nat.Coprime.mul_right (Nat.Coprime.pow_right _ (dvd_small small2 (h 2 (by simp)))) (dvd_small sq (h q (by simp)))
/-- The power of 3, reckoned. -/
theorem three (p n v : Nat) (h : n < 2 ^ 30) (e : pm p 30 3 n = v) : 3 ^ n % p = v := (pm_eq p 30 3 n h).symm.trans e
theorem fermat3 (p n : Nat) (qs : List Nat) (hp : 1 < p) (hn : n = p - 1) (hb : n < 2 ^ 30) (cop : ∀ m, (∀ q, q ∈ qs → ¬ q ∣ m) → Nat.Coprime m n)
    (h1 : pm p 30 3 n = 1) (hq : ∀ q, q ∈ qs → 0 < q ∧ pm p 30 3 (n / q) ≠ 1) (a : Nat) (ha : a % p ≠ 0) : a ^ n % p = 1 := by
  have hone : 1 % p = 1 := Nat.mod_eq_of_lt hp
  subst hn
  refine fermat_of p 3 hp (three p _ 1 hb h1) (fun d h0 hd => least_of p 3 (p - 1) d qs hone (three p _ 1 hb h1) cop (fun q hqs => ⟨(hq q hqs).1, fun e => (hq q hqs).2 ?_⟩) h0 hd) a ha
  rw [pm_eq p 30 3 _ (Nat.lt_of_le_of_lt (Nat.div_le_self _ _) hb)]; exact e
theorem fermatA (a : Nat) (ha : a % 998244353 ≠ 0) : a ^ 998244352 % 998244353 = 1 :=
  fermat3 998244353 998244352 [2, 7, 17] (by decide) (by decide) (by decide) (fun m h => cop3 (a := 23) small7 small17 h) (by decide +kernel) (by decide +kernel) a ha
theorem fermatB (a : Nat) (ha : a % 167772161 ≠ 0) : a ^ 167772160 % 167772161 = 1 :=
  fermat3 167772161 167772160 [2, 5] (by decide) (by decide) (by decide) (fun m h => cop2 (a := 25) small5 h) (by decide +kernel) (by decide +kernel) a ha
theorem fermatC (a : Nat) (ha : a % 469762049 ≠ 0) : a ^ 469762048 % 469762049 = 1 :=
  fermat3 469762049 469762048 [2, 7] (by decide) (by decide) (by decide) (fun m h => cop2 (a := 26) small7 h) (by decide +kernel) (by decide +kernel) a ha

/-! what follows for residues -/
theorem three_int (p n v : Nat) (P V : Int) (hP : P = (p : Int)) (hV : V = (v : Int)) (hn : n < 2 ^ 30) (h : pm p 30 3 n = v) : (3 : Int) ^ n % P = V := by
  rw [hP, hV, ← three p n v hn h, Int.natCast_emod, Int.natCast_pow]; rfl
theorem three_half (k : Int) (hp : pr k ≠ 0) : md k (3 ^ ((pr k - 1).toNat / 2)) = pr k - 1 := by
  rw [md_some hp]
  rcases pr_cases k with ⟨_, h⟩ | ⟨_, h⟩ | ⟨_, h⟩ | ⟨_, h⟩
  · rw [h, show ((998244353 : Int) - 1).toNat / 2 = 499122176 by decide]
    exact three_int 998244353 499122176 998244352 _ _ (by decide) (by decide) (by decide) (by decide +kernel)
  · rw [h, show ((167772161 : Int) - 1).toNat / 2 = 83886080 by decide]
    exact three_int 167772161 83886080 167772160 _ _ (by decide) (by decide) (by decide) (by decide +kernel)
  · rw [h, show ((469762049 : Int) - 1).toNat / 2 = 234881024 by decide]
    exact three_int 469762049 234881024 469762048 _ _ (by decide) (by decide) (by decide) (by decide +kernel)
  · exact absurd h hp
/-- Fermat. -/
theorem fermat (k a : Int) (h0 : 0 ≤ a) (hp : pr k ≠ 0) (ha : md k a ≠ 0) : md k (a ^ (pr k - 1).toNat) = 1 := by
  obtain ⟨x, rfl⟩ := Int.eq_ofNat_of_zero_le h0
  have aux : ∀ (p n : Nat), pr k = (p : Int) → (x % p ≠ 0 → x ^ n % p = 1) → ((x : Int) ^ n) % (p : Int) = 1 := by
    intro p n e h
    rw [← Int.natCast_pow, ← Int.natCast_emod, h (fun e2 => ha (by rw [md_some hp, e, ← Int.natCast_emod, e2]; rfl))]; rfl
  rw [md_some hp]
  rcases pr_cases k with ⟨_, h⟩ | ⟨_, h⟩ | ⟨_, h⟩ | ⟨_, h⟩
  · rw [h, show ((998244353 : Int) - 1).toNat = 998244352 by decide]
    exact aux 998244353 998244352 h (fermatA x)
  · rw [h, show ((167772161 : Int) - 1).toNat = 167772160 by decide]
    exact aux 167772161 167772160 h (fermatB x)
  · rw [h, show ((469762049 : Int) - 1).toNat = 469762048 by decide]
    exact aux 469762049 469762048 h (fermatC x)
  · exact absurd h hp
theorem md_one {k : Int} (hp : pr k ≠ 0) : md k 1 = 1 := md_of_lt (by omega) (by have := pr_pos hp; omega)
theorem md_zero (k : Int) : md k 0 = 0 := by
  unfold md; split <;> simp
theorem inv_right (k a : Int) (h0 : 0 ≤ a) (hp : pr k ≠ 0) (ha : md k a ≠ 0) : md k (a * md k (a ^ (pr k - 2).toNat)) = 1 := by
  have := pr_pos hp
  rw [md_mul_r, Int.mul_comm, ← Int.pow_succ, show (pr k - 2).toNat.succ = (pr k - 1).toNat by omega]
  exact fermat k a h0 hp ha
theorem inv_unique {k a x y : Int} (hx : md k (a * x) = 1) (hy : md k (a * y) = 1) (x0 : 0 ≤ x) (x1 : x < pr k) (y0 : 0 ≤ y) (y1 : y < pr k) : x = y := by
  have e1 : md k (x * (a * y)) = x := by rw [← md_mul_r, hy, Int.mul_one, md_of_lt x0 x1]
  have e2 : md k (y * (a * x)) = y := by rw [← md_mul_r, hx, Int.mul_one, md_of_lt y0 y1]
  have e3 : x * (a * y) = y * (a * x) := by ac_rfl
  exact e1.symm.trans ((congrArg (md k) e3).trans e2)
/-- The inverse's inverse. -/
theorem inv_inv (k a : Int) (h0 : 0 ≤ a) (hp : pr k ≠ 0) (ha : md k a ≠ 0) : md k (md k (a ^ (pr k - 2).toNat)) ≠ 0 ∧ md k ((md k (a ^ (pr k - 2).toNat)) ^ (pr k - 2).toNat) = md k a := by
  have h1 := inv_right k a h0 hp ha
  generalize md k (a ^ (pr k - 2).toNat) = x at *
  have hx : md k x ≠ 0 := by
    intro e
    rw [← md_mul_r, e, Int.mul_zero, md_zero] at h1
    omega
  have key : ∀ x : Int, 0 ≤ x → md k x ≠ 0 → md k (a * x) = 1 → md k (x ^ (pr k - 2).toNat) = md k a := by
    intro x x0 hx h1
    refine inv_unique (a := x) (inv_right k x x0 hp hx) ?_ (md_nonneg _ _) (md_lt hp _) (md_nonneg _ _) (md_lt hp _)
    rw [md_mul_r, Int.mul_comm]; exact h1
  refine ⟨hx, ?_⟩
  rw [← md_pow]
  exact key (md k x) (md_nonneg _ _) (by rw [md_md]; exact hx) (by rw [md_mul_r]; exact h1)
theorem cop_of {p a n : Nat} (hn : 0 < n) (h : a ^ n % p = 1) : Nat.gcd p (a % p) = 1 := by
  have h1 : Nat.gcd p (a % p) ∣ p := Nat.gcd_dvd_left _ _
  have h2 : Nat.gcd p (a % p) ∣ a := by
    have := Nat.gcd_dvd_right p (a % p)
    exact (Nat.dvd_mod_iff h1).1 this
  have h3 : Nat.gcd p (a % p) ∣ a ^ n := Nat.dvd_trans h2 ⟨a ^ (n - 1), by rw [Nat.mul_comm, ← Nat.pow_succ, show (n - 1).succ = n by omega]⟩
  have h4 : Nat.gcd p (a % p) ∣ a ^ n % p := (Nat.dvd_mod_iff h1).2 h3
  rw [h] at h4
  exact Nat.dvd_one.1 h4
/-- Euclid's steps: what holds ahead of each. -/
structure Euc (k a r s u v : Int) : Prop where
  r0 : 0 ≤ r
  r1 : r ≤ pr k
  u1 : 1 ≤ u
  u2 : u < pr k
  s0 : 0 ≤ s
  s1 : s < pr k
  v0 : 0 ≤ v
  v1 : v < pr k
  rs : md k (s * a) = md k r
  uv : md k (v * a) = md k u
  g : Nat.gcd r.toNat u.toNat = 1
theorem euc_start (k a : Int) (h0 : 0 ≤ a) (hp : pr k ≠ 0) (ha : md k a ≠ 0) : Euc k a (pr k) 0 (md k a) 1 := by
  have hb := pr_pos hp
  have := md_nonneg k a
  refine ⟨by omega, by omega, by omega, md_lt hp a, by omega, by omega, by omega, by omega, ?_, ?_, ?_⟩
  · rw [Int.zero_mul, md_zero, md_some hp, Int.emod_self]
  · rw [Int.one_mul, md_md]
  · obtain ⟨x, rfl⟩ := Int.eq_ofNat_of_zero_le h0
    have hf := fermat k x h0 hp ha
    rw [md_some hp] at hf ⊢
    obtain ⟨p, hpp⟩ := Int.eq_ofNat_of_zero_le (pr_bd k).1
    rw [hpp] at hf hb ⊢
    rw [← Int.natCast_emod, Int.toNat_natCast, Int.toNat_natCast]
    refine cop_of (n := ((p : Int) - 1).toNat) (by omega) ?_
    rw [← Int.natCast_pow, ← Int.natCast_emod] at hf
    exact Int.ofNat.inj hf
theorem euc_step {k a r s u v : Int} (h : Euc k a r s u v) (hu : 1 < u) : Euc k a u v (r % u) (md k (s - md k (r / u * v))) ∧ r % u < u := by
  have hp : pr k ≠ 0 := by have := h.u2; omega
  have hl : r % u < u := Int.emod_lt_of_pos _ (by omega)
  have hn : 0 ≤ r % u := Int.emod_nonneg _ (by omega)
  have hg : Nat.gcd u.toNat (r % u).toNat = 1 := by
    rw [Int.toNat_emod h.r0 (by omega), Nat.gcd_comm, ← Nat.gcd_rec, Nat.gcd_comm]; exact h.g
  have h1 : 1 ≤ r % u := by
    by_cases e : r % u < 1
    · have : r % u = 0 := by omega
      rw [this] at hg
      simp at hg
      omega
    · omega
  refine ⟨⟨by omega, by have := h.u2; omega, h1, by have := h.u2; omega, h.v0, h.v1, md_nonneg _ _, md_lt hp _, h.uv, ?_, hg⟩, hl⟩
  rw [md_mul_l, Int.sub_mul]
  have e1 : md k (md k (r / u * v) * a) = md k (r / u * u) := by rw [md_mul_l, Int.mul_assoc, ← md_mul_r, h.uv, md_mul_r]
  have e2 : ∀ x y : Int, md k (x - y) = md k (md k x - md k y) := by
    intro x y
    simp only [md_some hp]
    exact Int.sub_emod x y (pr k)
  rw [e2, e1, h.rs, ← e2, Int.mul_comm (r / u) u]
  congr 1
  have := Int.mul_ediv_add_emod r u
  omega
theorem euc_end {k a r s u v : Int} (h0 : 0 ≤ a) (ha : md k a ≠ 0) (h : Euc k a r s u v) (hu : ¬ 1 < u) : v = md k (a ^ (pr k - 2).toNat) := by
  have hp : pr k ≠ 0 := by have := h.u2; have := h.u1; omega
  have hu1 : u = 1 := by have := h.u1; omega
  have e := h.uv
  rw [hu1, md_one hp, Int.mul_comm] at e
  exact inv_unique (a := a) e (inv_right k a h0 hp ha) h.v0 h.v1 (md_nonneg _ _) (md_lt hp _)
theorem dvd4096 (k : Int) (hp : pr k ≠ 0) : 2 ^ 12 ∣ (pr k - 1).toNat := by
  rcases pr_cases k with ⟨_, h⟩ | ⟨_, h⟩ | ⟨_, h⟩ | ⟨_, h⟩
  · rw [h]; decide
  · rw [h]; decide
  · rw [h]; decide
  · exact absurd h hp
/-- The root's power. -/
theorem root_one (k : Int) (log : Nat) (hp : pr k ≠ 0) (hl : log ≤ 12) : md k ((md k (3 ^ ((pr k - 1).toNat / 2 ^ log))) ^ (2 ^ log)) = 1 := by
  rw [md_pow, ← Int.pow_mul, Nat.div_mul_cancel (Nat.dvd_trans (Nat.pow_dvd_pow 2 hl) (dvd4096 k hp))]
  refine fermat k 3 (by omega) hp ?_
  rw [md_of_lt (by omega) (by have := pr_pos hp; omega)]; omega
theorem root_half (k : Int) (j : Nat) (hp : pr k ≠ 0) (hl : j + 1 ≤ 12) : md k ((md k (3 ^ ((pr k - 1).toNat / 2 ^ (j + 1)))) ^ (2 ^ j)) = pr k - 1 := by
  rw [md_pow, ← Int.pow_mul]
  refine Eq.trans ?_ (three_half k hp)
  obtain ⟨c, hc⟩ := Nat.dvd_trans (Nat.pow_dvd_pow 2 hl) (dvd4096 k hp)
  congr 2
  rw [hc, Nat.mul_div_cancel_left _ (Nat.two_pow_pos _), Nat.pow_succ, Nat.mul_comm (2 ^ j) 2, Nat.mul_assoc, Nat.mul_div_cancel_left _ (by omega), Nat.mul_comm]
end Go.Proofs.YtcppcfbcgopmoaaDoor.Res
