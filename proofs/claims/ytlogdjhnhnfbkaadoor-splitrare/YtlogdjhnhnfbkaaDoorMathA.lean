/- Plain mathematics of layer 1: numbers modulo three primes; powers by squares; Fermat's theorem for the three primes by the powers of 3. No condition; nothing of the program. Plain mathematics of layer 2: sums, transforms modulo a prime, halves, the way back, products that go round. No condition; nothing of the program. Plain mathematics of layer 3: digits of mixed primes; the number that has them. No condition; nothing of the program. Plain mathematics of layer 4: sums of products; their residues; a row along another one. No condition; nothing of the program. Plain: the least power of 2; the greatest of a row; which error there is; what the document's sums come to. No condition; nothing of the program. -/

namespace Go.Proofs.YtlogdjhnhnfbkaaDoor.Res

/-- The primes. -/
def pr (k : Int) : Int := if k = 0 then 998244353 else if k = 1 then 167772161 else if k = 2 then 469762049 else 0
/-- A number modulo prime k; 0, if there is none. -/
def md (k a : Int) : Int := if pr k = 0 then 0 else a % pr k

theorem pr_cases (k : Int) : (k = 0 ∧ pr k = 998244353) ∨ (k = 1 ∧ pr k = 167772161) ∨ (k = 2 ∧ pr k = 469762049) ∨ ((k < 0 ∨ 3 ≤ k) ∧ pr k = 0) := by
  unfold pr
  by_cases h0 : k = 0
  · simp [h0]
  by_cases h1 : k = 1
  · simp [h1]
  by_cases h2 : k = 2
  · simp [h2]
  simp [h0, h1, h2]; omega
theorem pr_bd (k : Int) : 0 ≤ pr k ∧ pr k ≤ 998244353 := by
  rcases pr_cases k with ⟨_, h⟩ | ⟨_, h⟩ | ⟨_, h⟩ | ⟨_, h⟩ <;> rw [h] <;> omega
theorem pr_pos {k : Int} (h : pr k ≠ 0) : 167772161 ≤ pr k := by
  rcases pr_cases k with ⟨_, h⟩ | ⟨_, h⟩ | ⟨_, h⟩ | ⟨_, h⟩ <;> omega
theorem md_none {k : Int} (h : pr k = 0) (a : Int) : md k a = 0 := by simp [md, h]
theorem md_some {k : Int} (h : pr k ≠ 0) (a : Int) : md k a = a % pr k := by simp [md, h]
theorem md_nonneg (k a : Int) : 0 ≤ md k a := by
  unfold md; split
  · omega
  · exact Int.emod_nonneg _ ‹_›
theorem md_lt {k : Int} (h : pr k ≠ 0) (a : Int) : md k a < pr k := by
  rw [md_some h]; exact Int.emod_lt_of_pos _ (by have := pr_pos h; omega)
theorem md_le (k a : Int) : md k a ≤ 998244352 := by
  by_cases h : pr k = 0
  · rw [md_none h]; omega
  · have := md_lt h a; have := pr_bd k; omega
theorem md_le_pr (k a : Int) : md k a ≤ pr k := by
  by_cases h : pr k = 0
  · rw [md_none h]; omega
  · have := md_lt h a; omega
theorem md_of_lt {k a : Int} (h0 : 0 ≤ a) (h : a < pr k) : md k a = a := by
  have hp : pr k ≠ 0 := by omega
  rw [md_some hp]; exact Int.emod_eq_of_lt h0 h
theorem md_md (k a : Int) : md k (md k a) = md k a := by
  by_cases h : pr k = 0
  · simp [md_none h]
  · exact md_of_lt (md_nonneg _ _) (md_lt h a)
theorem md_add (k a b : Int) : md k (md k a + md k b) = md k (a + b) := by
  by_cases h : pr k = 0
  · simp [md_none h]
  · simp only [md_some h]; exact (Int.add_emod a b (pr k)).symm
theorem md_mul (k a b : Int) : md k (md k a * md k b) = md k (a * b) := by
  by_cases h : pr k = 0
  · simp [md_none h]
  · simp only [md_some h]; exact (Int.mul_emod a b (pr k)).symm
theorem md_sub (k a b : Int) : md k (md k a + pr k - md k b) = md k (a - b) := by
  by_cases h : pr k = 0
  · simp [md_none h]
  · simp only [md_some h]
    rw [show a % pr k + pr k - b % pr k = a % pr k - b % pr k + pr k by omega, Int.add_emod_right]
    exact (Int.sub_emod a b (pr k)).symm
theorem md_mul_l (k a b : Int) : md k (md k a * b) = md k (a * b) := by rw [← md_mul k (md k a) b, md_md, md_mul]
theorem md_mul_r (k a b : Int) : md k (a * md k b) = md k (a * b) := by rw [← md_mul k a (md k b), md_md, md_mul]
theorem md_add_l (k a b : Int) : md k (md k a + b) = md k (a + b) := by rw [← md_add k (md k a) b, md_md, md_add]
theorem md_add_r (k a b : Int) : md k (a + md k b) = md k (a + b) := by rw [← md_add k a (md k b), md_md, md_add]
theorem md_sub_l (k a b : Int) : md k (md k a - b) = md k (a - b) := by rw [← md_sub k (md k a) b, md_md, md_sub]
theorem md_pow (k a : Int) (n : Nat) : md k (md k a ^ n) = md k (a ^ n) := by
  induction n with
  | zero => rw [Int.pow_zero, Int.pow_zero]
  | succ n ih => rw [Int.pow_succ, Int.pow_succ, ← md_mul, ih, md_md, md_mul]
/-- The sum's residue, as the program says it. -/
theorem md_cong {k a b : Int} (h : md k a = md k b) (c : Int) : md k (a * c) = md k (b * c) := by rw [← md_mul_l, h, md_mul_l]

/-! powers by squares -/
theorem sq_pow (s : Int) (n : Nat) : (s * s) ^ n = s ^ (2 * n) := by rw [Int.pow_mul, Int.pow_succ, Int.pow_succ, Int.pow_zero, Int.one_mul]
/-- One round of the program's loop at an odd exponent. -/
theorem step_odd (k p s : Int) (n : Nat) (h : n % 2 = 1) : md k (md k (p * s) * (md k (s * s)) ^ (n / 2)) = md k (p * s ^ n) := by
  rw [md_mul_l, ← md_mul_r, md_pow, md_mul_r, sq_pow, Int.mul_assoc, Int.mul_comm s, ← Int.pow_succ, show (2 * (n / 2)).succ = n by omega]
theorem step_even (k p s : Int) (n : Nat) (h : n % 2 = 0) : md k (p * (md k (s * s)) ^ (n / 2)) = md k (p * s ^ n) := by
  rw [← md_mul_r, md_pow, md_mul_r, sq_pow, show 2 * (n / 2) = n by omega]
/-- The document's way: half of the exponent first. -/
theorem half_odd (k a : Int) (n : Nat) (h : n % 2 = 1) : md k (md k (md k (a ^ (n / 2)) * md k (a ^ (n / 2))) * a) = md k (a ^ n) := by
  rw [md_mul, ← Int.pow_add, md_mul_l, ← Int.pow_succ, show (n / 2 + n / 2).succ = n by omega]
theorem half_even (k a : Int) (n : Nat) (h : n % 2 = 0) : md k (md k (a ^ (n / 2)) * md k (a ^ (n / 2))) = md k (a ^ n) := by
  rw [md_mul, ← Int.pow_add, show n / 2 + n / 2 = n by omega]

/-! an injective function of finitely many numbers meets each -/
theorem surj_of_inj (n : Nat) : ∀ (f : Nat → Nat), (∀ i, i < n → f i < n) → (∀ i j, i < n → j < n → f i = f j → i = j) → ∀ y, y < n → ∃ i, i < n ∧ f i = y := by
  induction n with
  | zero => intro f _ _ y hy; omega
  | succ m ih =>
    intro f hf inj y hy
    have hm := hf m (by omega)
    have ih' := ih (fun i => if f i = m then f m else f i)
      (fun i hi => by
        show (if f i = m then f m else f i) < m
        split
        · rename_i e
          have : f m ≠ m := fun e2 => by have := inj i m (by omega) (by omega) (by omega); omega
          omega
        · have := hf i (by omega); omega)
      (fun i j hi hj e => by
        have e' : (if f i = m then f m else f i) = (if f j = m then f m else f j) := e
        split at e' <;> split at e'
        · exact inj i j (by omega) (by omega) (by omega)
        · have := inj m j (by omega) (by omega) e'; omega
        · have := inj i m (by omega) (by omega) e'; omega
        · exact inj i j (by omega) (by omega) e')
    by_cases h1 : y = f m
    · exact ⟨m, by omega, h1.symm⟩
    by_cases h2 : y = m
    · obtain ⟨i, hi, e⟩ := ih' (f m) (by omega)
      have e' : (if f i = m then f m else f i) = f m := e
      split at e'
      · exact ⟨i, by omega, by omega⟩
      · have := inj i m (by omega) (by omega) e'; omega
    · obtain ⟨i, hi, e⟩ := ih' y (by omega)
      have e' : (if f i = m then f m else f i) = y := e
      split at e'
      · omega
      · exact ⟨i, by omega, e'⟩

/-! orders -/
theorem pow_one_mod {p g x : Nat} (h : g ^ x % p = 1 % p) (t : Nat) : g ^ (x * t) % p = 1 % p := by
  rw [Nat.pow_mul, Nat.pow_mod, h, ← Nat.pow_mod, Nat.one_pow]
theorem ord_sub {p g x y : Nat} (hx : g ^ x % p = 1 % p) (hxy : g ^ (x + y) % p = 1 % p) : g ^ y % p = 1 % p := by
  rw [Nat.pow_add, Nat.mul_mod, hx, ← Nat.mul_mod, Nat.one_mul] at hxy
  exact hxy
theorem ord_mod {p g x y : Nat} (hx : g ^ x % p = 1 % p) (hy : g ^ y % p = 1 % p) : g ^ (y % x) % p = 1 % p := by
  refine ord_sub (x := x * (y / x)) (pow_one_mod hx _) ?_
  rw [Nat.div_add_mod]; exact hy
theorem ord_gcd {p g : Nat} : ∀ (x y : Nat), g ^ x % p = 1 % p → g ^ y % p = 1 % p → g ^ (Nat.gcd x y) % p = 1 % p := by
  intro x y
  induction x, y using Nat.gcd.induction with
  | H0 y => intro _ hy; rwa [Nat.gcd_zero_left]
  | H1 x y hx ih => intro h1 h2; rw [Nat.gcd_rec]; exact ih (ord_mod h1 h2) h1
theorem fermat_of (p g : Nat) (hp : 1 < p) (h1 : g ^ (p - 1) % p = 1) (hq : ∀ d, 0 < d → d < p - 1 → g ^ d % p ≠ 1) (a : Nat) (ha : a % p ≠ 0) : a ^ (p - 1) % p = 1 := by
  have hone : 1 % p = 1 := Nat.mod_eq_of_lt hp
  have hnz : ∀ i, i < p - 1 → g ^ i % p ≠ 0 := by
    intro i hi e
    have : g ^ (p - 1) % p = 0 := by
      rw [show p - 1 = i + (p - 1 - i) by omega, Nat.pow_add, Nat.mul_mod, e, Nat.zero_mul, Nat.zero_mod]
    omega
  have key : ∀ i j, i < j → j < p - 1 → g ^ i % p ≠ g ^ j % p := by
    intro i j hij hj e
    refine hq (j - i) (by omega) (by omega) ?_
    rw [← hone]
    refine ord_sub (x := p - 1) (by rw [h1, hone]) ?_
    rw [show p - 1 + (j - i) = (p - 1 - i) + j by omega, Nat.pow_add, Nat.mul_mod, ← e, ← Nat.mul_mod, ← Nat.pow_add, show p - 1 - i + i = p - 1 by omega, h1, hone]
  obtain ⟨i, hi, e⟩ := surj_of_inj (p - 1) (fun i => g ^ i % p - 1)
    (fun i hi => by have := Nat.mod_lt (g ^ i) (show 0 < p by omega); have := hnz i hi; show g ^ i % p - 1 < p - 1; omega)
    (fun i j hi hj e => by
      have e0 : g ^ i % p - 1 = g ^ j % p - 1 := e
      have e' : g ^ i % p = g ^ j % p := by have := hnz i hi; have := hnz j hj; omega
      rcases Nat.lt_trichotomy i j with h | h | h
      · exact absurd e' (key i j h hj)
      · exact h
      · exact absurd e'.symm (key j i h hi))
    (a % p - 1) (by have := Nat.mod_lt a (show 0 < p by omega); omega)
  have e0 : g ^ i % p - 1 = a % p - 1 := e
  have e1 : g ^ i % p = a % p := by have := hnz i hi; omega
  rw [Nat.pow_mod, ← e1, ← Nat.pow_mod, ← Nat.pow_mul, Nat.mul_comm]
  exact (pow_one_mod (by rw [h1, hone]) i).trans hone

/-! powers modulo p, reckoned by squares -/
def pm (p : Nat) : Nat → Nat → Nat → Nat
  | 0, _, _ => 1 % p
  | f + 1, a, n => if n % 2 = 1 then a * pm p f (a * a % p) (n / 2) % p else pm p f (a * a % p) (n / 2)
theorem pm_eq (p : Nat) : ∀ (f a n : Nat), n < 2 ^ f → pm p f a n = a ^ n % p
  | 0, a, n, h => by
    have : n = 0 := by simpa using h
    subst this; simp [pm]
  | f + 1, a, n, h => by
    have ih := pm_eq p f (a * a % p) (n / 2) (by rw [Nat.pow_succ] at h; omega)
    have e : (a * a % p) ^ (n / 2) % p = a ^ (2 * (n / 2)) % p := by
      rw [← Nat.pow_mod, Nat.pow_mul, Nat.pow_succ, Nat.pow_one]
    unfold pm
    rw [ih, e]
    split
    · rename_i h1
      rw [Nat.mul_mod_mod, Nat.mul_comm, ← Nat.pow_succ, show (2 * (n / 2)).succ = n by omega]
    · rw [show 2 * (n / 2) = n by omega]
theorem dvd_small {q m : Nat} (hq : ∀ d, d ∣ q → d = 1 ∨ d = q) (h : ¬ q ∣ m) : Nat.Coprime m q := by
  rcases hq (Nat.gcd m q) (Nat.gcd_dvd_right m q) with e | e
  · exact e
  · exact absurd (e ▸ Nat.gcd_dvd_left m q) h
theorem small2 : ∀ d, d ∣ 2 → d = 1 ∨ d = 2 := fun d h => by
  have := Nat.le_of_dvd (by omega) h
  rcases h with ⟨c, hc⟩
  match d, this with
  | 0, _ => omega
  | 1, _ => exact .inl rfl
  | 2, _ => exact .inr rfl
theorem small5 : ∀ d, d ∣ 5 → d = 1 ∨ d = 5 := fun d h => by
  have := Nat.le_of_dvd (by omega) h
  rcases h with ⟨c, hc⟩
  match d, this with
  | 0, _ | 2, _ | 3, _ | 4, _ => omega
  | 1, _ => exact .inl rfl
  | 5, _ => exact .inr rfl
theorem small7 : ∀ d, d ∣ 7 → d = 1 ∨ d = 7 := fun d h => by
  have := Nat.le_of_dvd (by omega) h
  rcases h with ⟨c, hc⟩
  match d, this with
  | 0, _ | 2, _ | 3, _ | 4, _ | 5, _ | 6, _ => omega
  | 1, _ => exact .inl rfl
  | 7, _ => exact .inr rfl
theorem small17 : ∀ d, d ∣ 17 → d = 1 ∨ d = 17 := fun d h => by
  have := Nat.le_of_dvd (by omega) h
  rcases h with ⟨c, hc⟩
  have : d = 0 ∨ d = 1 ∨ d = 2 ∨ d = 3 ∨ d = 4 ∨ d = 5 ∨ d = 6 ∨ d = 7 ∨ d = 8 ∨ d = 9 ∨ d = 10 ∨ d = 11 ∨ d = 12 ∨ d = 13 ∨ d = 14 ∨ d = 15 ∨ d = 16 ∨ d = 17 := by omega
  rcases this with h | h | h | h | h | h | h | h | h | h | h | h | h | h | h | h | h | h <;> subst h <;> omega
/-- No lesser power is 1, if none of the greatest parts' is. -/
theorem least_of (p g n x : Nat) (qs : List Nat) (hone : 1 % p = 1)
    (h1 : g ^ n % p = 1) (cop : ∀ m, (∀ q, q ∈ qs → ¬ q ∣ m) → Nat.Coprime m n)
    (hq : ∀ q, q ∈ qs → 0 < q ∧ g ^ (n / q) % p ≠ 1) (h0 : 0 < x) (hx : x < n) : g ^ x % p ≠ 1 := by
  intro e
  have eg := ord_gcd x n (by rw [e, hone]) (by rw [h1, hone])
  obtain ⟨m, hm⟩ := Nat.gcd_dvd_right x n
  have hle : Nat.gcd x n ≤ x := Nat.le_of_dvd h0 (Nat.gcd_dvd_left x n)
  have hm1 : m ≠ 1 := fun e1 => by rw [e1, Nat.mul_one] at hm; omega
  have : ∃ q, q ∈ qs ∧ q ∣ m := by
    refine Classical.byContradiction fun hno => hm1 ?_
    have hc := cop m (fun q hqs hd => hno ⟨q, hqs, hd⟩)
    exact Nat.Coprime.eq_one_of_dvd hc ⟨Nat.gcd x n, by rw [Nat.mul_comm]; exact hm⟩
  obtain ⟨q, hqs, c, hc⟩ := this
  obtain ⟨q0, hne⟩ := hq q hqs
  refine hne ?_
  have : n / q = Nat.gcd x n * c := by
    rw [hc] at hm
    refine Nat.div_eq_of_eq_mul_right q0 ?_
    exact hm.trans (Nat.mul_left_comm _ _ _)
  rw [this]
  exact (pow_one_mod eg c).trans hone
theorem cop3 {m a q r : Nat} (sq : ∀ d, d ∣ q → d = 1 ∨ d = q) (sr : ∀ d, d ∣ r → d = 1 ∨ d = r) (h : ∀ x, x ∈ [2, q, r] → ¬ x ∣ m) : Nat.Coprime m (2 ^ a * q * r) :=
  Nat.Coprime.mul_right (Nat.Coprime.mul_right (Nat.Coprime.pow_right _ (dvd_small small2 (h 2 (by simp)))) (dvd_small sq (h q (by simp)))) (dvd_small sr (h r (by simp)))
theorem cop2 {m a q : Nat} (sq : ∀ d, d ∣ q → d = 1 ∨ d = q) (h : ∀ x, x ∈ [2, q] → ¬ x ∣ m) : Nat.Coprime m (2 ^ a * q) :=
  Nat.Coprime.mul_right (Nat.Coprime.pow_right _ (dvd_small small2 (h 2 (by simp)))) (dvd_small sq (h q (by simp)))
/-- The power of 3, reckoned. -/
theorem three (p n v : Nat) (h : n < 2 ^ 30) (e : pm p 30 3 n = v) : 3 ^ n % p = v := (pm_eq p 30 3 n h).symm.trans e
theorem fermat3 (p n : Nat) (qs : List Nat) (hp : 1 < p) (hn : n = p - 1) (hb : n < 2 ^ 30) (cop : ∀ m, (∀ q, q ∈ qs → ¬ q ∣ m) → Nat.Coprime m n)
    (h1 : pm p 30 3 n = 1) (hq : ∀ q, q ∈ qs → 0 < q ∧ pm p 30 3 (n / q) ≠ 1) (a : Nat) (ha : a % p ≠ 0) : a ^ n % p = 1 := by
  have hone : 1 % p = 1 := Nat.mod_eq_of_lt hp
  subst hn
  refine fermat_of p 3 hp (three p _ 1 hb h1) (fun d h0 hd => least_of p 3 (p - 1) d qs hone (three p _ 1 hb h1) cop (fun q hqs => ⟨(hq q hqs).1, fun e => (hq q hqs).2 ?_⟩) h0 hd) a ha
  rw [pm_eq p 30 3 _ (Nat.lt_of_le_of_lt (Nat.div_le_self _ _) hb)]; exact e
theorem fermatA (a : Nat) (ha : a % 998244353 ≠ 0) : a ^ 998244352 % 998244353 = 1 :=
  fermat3 998244353 998244352 [2, 7, 17] (by decide) (by decide) (by decide) (fun m h => cop3 (a := 23) small7 small17 h) (by decide +kernel) (by decide +kernel) a ha
theorem fermatB (a : Nat) (ha : a % 167772161 ≠ 0) : a ^ 167772160 % 167772161 = 1 :=
  fermat3 167772161 167772160 [2, 5] (by decide) (by decide) (by decide) (fun m h => cop2 (a := 25) small5 h) (by decide +kernel) (by decide +kernel) a ha
theorem fermatC (a : Nat) (ha : a % 469762049 ≠ 0) : a ^ 469762048 % 469762049 = 1 :=
  fermat3 469762049 469762048 [2, 7] (by decide) (by decide) (by decide) (fun m h => cop2 (a := 26) small7 h) (by decide +kernel) (by decide +kernel) a ha

/-! what follows for residues -/
theorem three_int (p n v : Nat) (P V : Int) (hP : P = (p : Int)) (hV : V = (v : Int)) (hn : n < 2 ^ 30) (h : pm p 30 3 n = v) : (3 : Int) ^ n % P = V := by
  rw [hP, hV, ← three p n v hn h, Int.natCast_emod, Int.natCast_pow]; rfl
theorem three_half (k : Int) (hp : pr k ≠ 0) : md k (3 ^ ((pr k - 1).toNat / 2)) = pr k - 1 := by
  rw [md_some hp]
  rcases pr_cases k with ⟨_, h⟩ | ⟨_, h⟩ | ⟨_, h⟩ | ⟨_, h⟩
  · rw [h, show ((998244353 : Int) - 1).toNat / 2 = 499122176 by decide]
    exact three_int 998244353 499122176 998244352 _ _ (by decide) (by decide) (by decide) (by decide +kernel)
  · rw [h, show ((167772161 : Int) - 1).toNat / 2 = 83886080 by decide]
    exact three_int 167772161 83886080 167772160 _ _ (by decide) (by decide) (by decide) (by decide +kernel)
  · rw [h, show ((469762049 : Int) - 1).toNat / 2 = 234881024 by decide]
    exact three_int 469762049 234881024 469762048 _ _ (by decide) (by decide) (by decide) (by decide +kernel)
  · exact absurd h hp
/-- Fermat. -/
theorem fermat (k a : Int) (h0 : 0 ≤ a) (hp : pr k ≠ 0) (ha : md k a ≠ 0) : md k (a ^ (pr k - 1).toNat) = 1 := by
  obtain ⟨x, rfl⟩ := Int.eq_ofNat_of_zero_le h0
  have aux : ∀ (p n : Nat), pr k = (p : Int) → (x % p ≠ 0 → x ^ n % p = 1) → ((x : Int) ^ n) % (p : Int) = 1 := by
    intro p n e h
    rw [← Int.natCast_pow, ← Int.natCast_emod, h (fun e2 => ha (by rw [md_some hp, e, ← Int.natCast_emod, e2]; rfl))]; rfl
  rw [md_some hp]
  rcases pr_cases k with ⟨_, h⟩ | ⟨_, h⟩ | ⟨_, h⟩ | ⟨_, h⟩
  · rw [h, show ((998244353 : Int) - 1).toNat = 998244352 by decide]
    exact aux 998244353 998244352 h (fermatA x)
  · rw [h, show ((167772161 : Int) - 1).toNat = 167772160 by decide]
    exact aux 167772161 167772160 h (fermatB x)
  · rw [h, show ((469762049 : Int) - 1).toNat = 469762048 by decide]
    exact aux 469762049 469762048 h (fermatC x)
  · exact absurd h hp
theorem md_one {k : Int} (hp : pr k ≠ 0) : md k 1 = 1 := md_of_lt (by omega) (by have := pr_pos hp; omega)
theorem md_zero (k : Int) : md k 0 = 0 := by
  unfold md; split <;> simp
theorem inv_right (k a : Int) (h0 : 0 ≤ a) (hp : pr k ≠ 0) (ha : md k a ≠ 0) : md k (a * md k (a ^ (pr k - 2).toNat)) = 1 := by
  have := pr_pos hp
  rw [md_mul_r, Int.mul_comm, ← Int.pow_succ, show (pr k - 2).toNat.succ = (pr k - 1).toNat by omega]
  exact fermat k a h0 hp ha
theorem inv_unique {k a x y : Int} (hx : md k (a * x) = 1) (hy : md k (a * y) = 1) (x0 : 0 ≤ x) (x1 : x < pr k) (y0 : 0 ≤ y) (y1 : y < pr k) : x = y := by
  have e1 : md k (x * (a * y)) = x := by rw [← md_mul_r, hy, Int.mul_one, md_of_lt x0 x1]
  have e2 : md k (y * (a * x)) = y := by rw [← md_mul_r, hx, Int.mul_one, md_of_lt y0 y1]
  have e3 : x * (a * y) = y * (a * x) := by ac_rfl
  exact e1.symm.trans ((congrArg (md k) e3).trans e2)
/-- The inverse's inverse. -/
theorem inv_inv (k a : Int) (h0 : 0 ≤ a) (hp : pr k ≠ 0) (ha : md k a ≠ 0) : md k (md k (a ^ (pr k - 2).toNat)) ≠ 0 ∧ md k ((md k (a ^ (pr k - 2).toNat)) ^ (pr k - 2).toNat) = md k a := by
  have h1 := inv_right k a h0 hp ha
  generalize md k (a ^ (pr k - 2).toNat) = x at *
  have hx : md k x ≠ 0 := by
    intro e
    rw [← md_mul_r, e, Int.mul_zero, md_zero] at h1
    omega
  have key : ∀ x : Int, 0 ≤ x → md k x ≠ 0 → md k (a * x) = 1 → md k (x ^ (pr k - 2).toNat) = md k a := by
    intro x x0 hx h1
    refine inv_unique (a := x) (inv_right k x x0 hp hx) ?_ (md_nonneg _ _) (md_lt hp _) (md_nonneg _ _) (md_lt hp _)
    rw [md_mul_r, Int.mul_comm]; exact h1
  refine ⟨hx, ?_⟩
  rw [← md_pow]
  exact key (md k x) (md_nonneg _ _) (by rw [md_md]; exact hx) (by rw [md_mul_r]; exact h1)
theorem cop_of {p a n : Nat} (hn : 0 < n) (h : a ^ n % p = 1) : Nat.gcd p (a % p) = 1 := by
  have h1 : Nat.gcd p (a % p) ∣ p := Nat.gcd_dvd_left _ _
  have h2 : Nat.gcd p (a % p) ∣ a := by
    have := Nat.gcd_dvd_right p (a % p)
    exact (Nat.dvd_mod_iff h1).1 this
  have h3 : Nat.gcd p (a % p) ∣ a ^ n := Nat.dvd_trans h2 ⟨a ^ (n - 1), by rw [Nat.mul_comm, ← Nat.pow_succ, show (n - 1).succ = n by omega]⟩
  have h4 : Nat.gcd p (a % p) ∣ a ^ n % p := (Nat.dvd_mod_iff h1).2 h3
  rw [h] at h4
  exact Nat.dvd_one.1 h4
/-- Euclid's steps: what holds ahead of each. -/
structure Euc (k a r s u v : Int) : Prop where
  r0 : 0 ≤ r
  r1 : r ≤ pr k
  u1 : 1 ≤ u
  u2 : u < pr k
  s0 : 0 ≤ s
  s1 : s < pr k
  v0 : 0 ≤ v
  v1 : v < pr k
  rs : md k (s * a) = md k r
  uv : md k (v * a) = md k u
  g : Nat.gcd r.toNat u.toNat = 1
theorem euc_start (k a : Int) (h0 : 0 ≤ a) (hp : pr k ≠ 0) (ha : md k a ≠ 0) : Euc k a (pr k) 0 (md k a) 1 := by
  have hb := pr_pos hp
  have := md_nonneg k a
  refine ⟨by omega, by omega, by omega, md_lt hp a, by omega, by omega, by omega, by omega, ?_, ?_, ?_⟩
  · rw [Int.zero_mul, md_zero, md_some hp, Int.emod_self]
  · rw [Int.one_mul, md_md]
  · obtain ⟨x, rfl⟩ := Int.eq_ofNat_of_zero_le h0
    have hf := fermat k x h0 hp ha
    rw [md_some hp] at hf ⊢
    obtain ⟨p, hpp⟩ := Int.eq_ofNat_of_zero_le (pr_bd k).1
    rw [hpp] at hf hb ⊢
    rw [← Int.natCast_emod, Int.toNat_natCast, Int.toNat_natCast]
    refine cop_of (n := ((p : Int) - 1).toNat) (by omega) ?_
    rw [← Int.natCast_pow, ← Int.natCast_emod] at hf
    exact Int.ofNat.inj hf
theorem euc_step {k a r s u v : Int} (h : Euc k a r s u v) (hu : 1 < u) : Euc k a u v (r % u) (md k (s - md k (r / u * v))) ∧ r % u < u := by
  have hp : pr k ≠ 0 := by have := h.u2; omega
  have hl : r % u < u := Int.emod_lt_of_pos _ (by omega)
  have hn : 0 ≤ r % u := Int.emod_nonneg _ (by omega)
  have hg : Nat.gcd u.toNat (r % u).toNat = 1 := by
    rw [Int.toNat_emod h.r0 (by omega), Nat.gcd_comm, ← Nat.gcd_rec, Nat.gcd_comm]; exact h.g
  have h1 : 1 ≤ r % u := by
    by_cases e : r % u < 1
    · have : r % u = 0 := by omega
      rw [this] at hg
      simp at hg
      omega
    · omega
  refine ⟨⟨by omega, by have := h.u2; omega, h1, by have := h.u2; omega, h.v0, h.v1, md_nonneg _ _, md_lt hp _, h.uv, ?_, hg⟩, hl⟩
  rw [md_mul_l, Int.sub_mul]
  have e1 : md k (md k (r / u * v) * a) = md k (r / u * u) := by rw [md_mul_l, Int.mul_assoc, ← md_mul_r, h.uv, md_mul_r]
  have e2 : ∀ x y : Int, md k (x - y) = md k (md k x - md k y) := by
    intro x y
    simp only [md_some hp]
    exact Int.sub_emod x y (pr k)
  rw [e2, e1, h.rs, ← e2, Int.mul_comm (r / u) u]
  congr 1
  have := Int.mul_ediv_add_emod r u
  omega
theorem euc_end {k a r s u v : Int} (h0 : 0 ≤ a) (ha : md k a ≠ 0) (h : Euc k a r s u v) (hu : ¬ 1 < u) : v = md k (a ^ (pr k - 2).toNat) := by
  have hp : pr k ≠ 0 := by have := h.u2; have := h.u1; omega
  have hu1 : u = 1 := by have := h.u1; omega
  have e := h.uv
  rw [hu1, md_one hp, Int.mul_comm] at e
  exact inv_unique (a := a) e (inv_right k a h0 hp ha) h.v0 h.v1 (md_nonneg _ _) (md_lt hp _)
theorem dvd4096 (k : Int) (hp : pr k ≠ 0) : 2 ^ 12 ∣ (pr k - 1).toNat := by
  rcases pr_cases k with ⟨_, h⟩ | ⟨_, h⟩ | ⟨_, h⟩ | ⟨_, h⟩
  · rw [h]; decide
  · rw [h]; decide
  · rw [h]; decide
  · exact absurd h hp
/-- The root's power. -/
theorem root_one (k : Int) (log : Nat) (hp : pr k ≠ 0) (hl : log ≤ 12) : md k ((md k (3 ^ ((pr k - 1).toNat / 2 ^ log))) ^ (2 ^ log)) = 1 := by
  rw [md_pow, ← Int.pow_mul, Nat.div_mul_cancel (Nat.dvd_trans (Nat.pow_dvd_pow 2 hl) (dvd4096 k hp))]
  refine fermat k 3 (by omega) hp ?_
  rw [md_of_lt (by omega) (by have := pr_pos hp; omega)]; omega
theorem root_half (k : Int) (j : Nat) (hp : pr k ≠ 0) (hl : j + 1 ≤ 12) : md k ((md k (3 ^ ((pr k - 1).toNat / 2 ^ (j + 1)))) ^ (2 ^ j)) = pr k - 1 := by
  rw [md_pow, ← Int.pow_mul]
  refine Eq.trans ?_ (three_half k hp)
  obtain ⟨c, hc⟩ := Nat.dvd_trans (Nat.pow_dvd_pow 2 hl) (dvd4096 k hp)
  congr 2
  rw [hc, Nat.mul_div_cancel_left _ (Nat.two_pow_pos _), Nat.pow_succ, Nat.mul_comm (2 ^ j) 2, Nat.mul_assoc, Nat.mul_div_cancel_left _ (by omega), Nat.mul_comm]

end Go.Proofs.YtlogdjhnhnfbkaaDoor.Res

namespace Go.Proofs.YtlogdjhnhnfbkaaDoor.Res

/-- f 0 + .. + f (n - 1). -/
def sm : Nat → (Nat → Int) → Int
  | 0, _ => 0
  | n + 1, f => sm n f + f n
theorem sm_congr {n : Nat} {f g : Nat → Int} (h : ∀ i, i < n → f i = g i) : sm n f = sm n g := by
  induction n with
  | zero => rfl
  | succ n ih => rw [sm, sm, ih (fun i hi => h i (by omega)), h n (by omega)]
theorem sm_add (n : Nat) (f g : Nat → Int) : sm n (fun i => f i + g i) = sm n f + sm n g := by
  induction n with
  | zero => rfl
  | succ n ih => simp only [sm, ih]; omega
theorem sm_mul (n : Nat) (c : Int) (f : Nat → Int) : sm n (fun i => c * f i) = c * sm n f := by
  induction n with
  | zero => simp [sm]
  | succ n ih => simp only [sm, ih]; rw [Int.mul_add]
theorem sm_mul_r (n : Nat) (c : Int) (f : Nat → Int) : sm n (fun i => f i * c) = sm n f * c := by
  rw [Int.mul_comm, ← sm_mul]; exact sm_congr fun i _ => Int.mul_comm _ _
theorem sm_zero (n : Nat) : sm n (fun _ => 0) = 0 := by
  induction n with
  | zero => rfl
  | succ n ih => rw [sm, ih]; rfl
theorem sm_one (n : Nat) : sm n (fun _ => 1) = n := by
  induction n with
  | zero => rfl
  | succ n ih => rw [sm, ih]; omega
theorem sm_two (h : Nat) (f : Nat → Int) : sm (2 * h) f = sm h (fun i => f (2 * i)) + sm h (fun i => f (2 * i + 1)) := by
  induction h with
  | zero => rfl
  | succ h ih => rw [show 2 * (h + 1) = 2 * h + 1 + 1 by omega, sm, sm, ih, sm, sm]; omega
theorem sm_app (m n : Nat) (f : Nat → Int) : sm (m + n) f = sm m f + sm n (fun i => f (m + i)) := by
  induction n with
  | zero => simp [sm]
  | succ n ih => rw [← Nat.add_assoc, sm, ih, sm]; omega
theorem sm_swap (m n : Nat) (f : Nat → Nat → Int) : sm m (fun i => sm n (fun j => f i j)) = sm n (fun j => sm m (fun i => f i j)) := by
  induction m with
  | zero => simp only [sm]; exact (sm_zero n).symm
  | succ m ih => simp only [sm, ih]; exact (sm_add n _ _).symm
/-- One term alone. -/
theorem sm_single {n j : Nat} (hj : j < n) {f : Nat → Int} (h : ∀ i, i < n → i ≠ j → f i = 0) : sm n f = f j := by
  induction n with
  | zero => omega
  | succ n ih =>
    rw [sm]
    by_cases e : j = n
    · subst e
      rw [sm_congr (g := fun _ => 0) (fun i hi => h i (by omega) (by omega)), sm_zero]; omega
    · rw [ih (by omega) (fun i hi hne => h i (by omega) hne), h n (by omega) (fun e2 => e e2.symm)]; omega

/-- The same modulo the prime. -/
def Eqm (k a b : Int) : Prop := md k a = md k b
theorem Eqm.rfl' {k a : Int} : Eqm k a a := rfl
theorem Eqm.of {k a b : Int} (h : a = b) : Eqm k a b := by subst h; rfl
theorem Eqm.symm {k a b : Int} (h : Eqm k a b) : Eqm k b a := Eq.symm h
theorem Eqm.trans {k a b c : Int} (h : Eqm k a b) (g : Eqm k b c) : Eqm k a c := Eq.trans h g
theorem Eqm.add {k a b c d : Int} (h : Eqm k a b) (g : Eqm k c d) : Eqm k (a + c) (b + d) := by
  unfold Eqm at *; rw [← md_add, h, g, md_add]
theorem Eqm.mul {k a b c d : Int} (h : Eqm k a b) (g : Eqm k c d) : Eqm k (a * c) (b * d) := by
  unfold Eqm at *; rw [← md_mul, h, g, md_mul]
theorem Eqm.sub {k a b c d : Int} (h : Eqm k a b) (g : Eqm k c d) : Eqm k (a - c) (b - d) := by
  unfold Eqm at *; rw [← md_sub, h, g, md_sub]
theorem Eqm.pow {k a b : Int} (h : Eqm k a b) (n : Nat) : Eqm k (a ^ n) (b ^ n) := by
  unfold Eqm at *; rw [← md_pow, h, md_pow]
theorem Eqm.md {k a : Int} : Eqm k (md k a) a := md_md k a
theorem Eqm.sm {k : Int} {n : Nat} {f g : Nat → Int} (h : ∀ i, i < n → Eqm k (f i) (g i)) : Eqm k (sm n f) (sm n g) := by
  induction n with
  | zero => rfl
  | succ n ih => exact (ih (fun i hi => h i (by omega))).add (h n (by omega))
theorem Eqm.neg_one {k : Int} (hp : pr k ≠ 0) : Eqm k (pr k - 1) (-1) := by
  unfold Eqm
  rw [md_some hp, md_some hp, show pr k - 1 = -1 + pr k by omega, Int.add_emod_right]
theorem Eqm.pr_zero (k : Int) : Eqm k (pr k) 0 := by
  unfold Eqm
  by_cases hp : pr k = 0
  · rw [hp]
  · rw [md_some hp, md_some hp, Int.emod_self, Int.zero_emod]
theorem one_pow' (n : Nat) : (1 : Int) ^ n = 1 := Int.one_pow
theorem neg_one_even (i : Nat) : (-1 : Int) ^ (2 * i) = 1 := by rw [Int.pow_mul]; exact Int.one_pow
theorem neg_one_odd (i : Nat) : (-1 : Int) ^ (2 * i + 1) = -1 := by rw [Int.pow_succ, neg_one_even]; rfl

/-- The transform with x for the root. -/
def dft (k x : Int) (n : Nat) (G : Nat → Int) (j : Nat) : Int := md k (sm n fun i => G i * x ^ (i * j))
theorem dft_nonneg (k x : Int) (n : Nat) (G : Nat → Int) (j : Nat) : 0 ≤ dft k x n G j := md_nonneg _ _
theorem dft_le (k x : Int) (n : Nat) (G : Nat → Int) (j : Nat) : dft k x n G j ≤ 998244352 := md_le _ _
theorem dft_congr {k x y : Int} {n : Nat} {G H : Nat → Int} {j : Nat} (hx : Eqm k x y) (h : ∀ i, i < n → Eqm k (G i) (H i)) : dft k x n G j = dft k y n H j :=
  Eqm.sm fun i hi => (h i hi).mul (hx.pow _)
theorem dft_one (k x : Int) (G : Nat → Int) : dft k x 1 G 0 = md k (G 0) := by
  simp [dft, sm]
theorem pow_reorder (x : Int) (i j : Nat) : (x * x) ^ (i * j) = x ^ (2 * i * j) := by rw [sq_pow, Nat.mul_assoc]
/-- The first half of a transform out of the halves'. -/
theorem bfly_low (k x : Int) (h : Nat) (G : Nat → Int) (j : Nat) :
    dft k x (2 * h) G j = md k (dft k (x * x) h (fun i => G (2 * i)) j + md k (dft k (x * x) h (fun i => G (2 * i + 1)) j * md k (x ^ j))) := by
  unfold dft
  rw [md_mul, md_add, sm_two, ← sm_mul_r]
  refine congrArg (md k) ?_
  congr 1
  · exact sm_congr fun i _ => by rw [pow_reorder]
  · refine sm_congr fun i _ => ?_
    rw [pow_reorder, Int.mul_assoc, ← Int.pow_add, show 2 * i * j + j = (2 * i + 1) * j by rw [Nat.add_mul, Nat.one_mul]]
theorem bfly_high (k x : Int) (hp : pr k ≠ 0) (h : Nat) (hx : md k (x ^ h) = pr k - 1) (G : Nat → Int) (j : Nat) :
    dft k x (2 * h) G (h + j) = md k (dft k (x * x) h (fun i => G (2 * i)) j + pr k - md k (dft k (x * x) h (fun i => G (2 * i + 1)) j * md k (x ^ j))) := by
  have hx1 : Eqm k (x ^ h) (-1) := by
    refine Eqm.trans (b := pr k - 1) ?_ (Eqm.neg_one hp)
    unfold Eqm
    rw [← hx, md_md]
  unfold dft
  rw [md_mul, show ∀ a b : Int, md k (md k a + pr k - md k b) = md k (a - b) from md_sub k, sm_two, ← sm_mul_r]
  refine Eqm.trans (b := sm h (fun i => G (2 * i) * (x * x) ^ (i * j)) + sm h (fun i => (-1) * (G (2 * i + 1) * (x * x) ^ (i * j) * x ^ j))) (Eqm.add ?_ ?_) ?_
  · refine Eqm.sm fun i _ => Eqm.rfl'.mul ?_
    rw [Nat.mul_add, Int.pow_add, Nat.mul_comm (2 * i) h, Int.pow_mul, pow_reorder]
    refine Eqm.trans ((hx1.pow _).mul Eqm.rfl') (Eqm.of ?_)
    rw [neg_one_even, Int.one_mul]
  · refine Eqm.sm fun i _ => ?_
    rw [Nat.mul_add, Int.pow_add, Nat.mul_comm (2 * i + 1) h, Int.pow_mul, pow_reorder]
    refine Eqm.trans (Eqm.rfl'.mul ((hx1.pow _).mul Eqm.rfl')) (Eqm.of ?_)
    rw [neg_one_odd, Nat.add_mul, Nat.one_mul, Int.pow_add]
    generalize x ^ (2 * i * j) = a
    generalize x ^ j = b
    generalize G (2 * i + 1) = c
    simp only [Int.neg_mul, Int.one_mul, Int.mul_neg, Int.mul_assoc]
  · rw [sm_mul]
    refine Eqm.of ?_
    show _ + -1 * _ = _ - _
    rw [Int.neg_mul, Int.one_mul]; rfl

/-! the way back -/
/-- The sum of the powers of a root: all of them, or none. -/
theorem ortho (k : Int) (hp : pr k ≠ 0) : ∀ (m : Nat) (x : Int), (m = 0 ∨ md k (x ^ (2 ^ (m - 1))) = pr k - 1) → ∀ D : Nat,
    Eqm k (sm (2 ^ m) fun j => x ^ (j * D)) (if D % 2 ^ m = 0 then 2 ^ m else 0)
  | 0, x, _, D => by
    have : D % 2 ^ 0 = 0 := by simp [Nat.mod_one]
    rw [if_pos this]
    refine Eqm.of ?_
    simp [sm]
  | m + 1, x, hx, D => by
    have hx' : md k (x ^ (2 ^ m)) = pr k - 1 := by rcases hx with h | h; (exact absurd h (by omega)); exact h
    have hx1 : Eqm k (x ^ (2 ^ m)) (-1) := by
      refine Eqm.trans (b := pr k - 1) ?_ (Eqm.neg_one hp)
      unfold Eqm
      rw [← hx', md_md]
    have hs : sm (2 ^ (m + 1)) (fun j => x ^ (j * D)) = sm (2 ^ m) (fun j => x ^ (j * D)) + sm (2 ^ m) (fun j => x ^ (2 ^ m * D) * x ^ (j * D)) := by
      rw [Nat.pow_succ, Nat.mul_two, sm_app]
      congr 1
      refine sm_congr fun j _ => ?_
      rw [Nat.add_mul, Int.pow_add]
    rw [hs, sm_mul]
    have hD : Eqm k (x ^ (2 ^ m * D)) ((-1) ^ D) := by rw [Int.pow_mul]; exact hx1.pow D
    by_cases ho : D % 2 = 1
    · have hd : (-1 : Int) ^ D = -1 := by have := neg_one_odd (D / 2); rwa [show 2 * (D / 2) + 1 = D by omega] at this
      have hne : ¬ D % 2 ^ (m + 1) = 0 := by
        intro e
        have : 2 ∣ D := Nat.dvd_trans ⟨2 ^ m, by rw [Nat.pow_succ, Nat.mul_comm]⟩ (Nat.dvd_of_mod_eq_zero e)
        omega
      rw [if_neg hne]
      rw [hd] at hD
      refine Eqm.trans (Eqm.add Eqm.rfl' (hD.mul Eqm.rfl')) (Eqm.of ?_)
      omega
    · obtain ⟨E, rfl⟩ : ∃ E, D = 2 * E := ⟨D / 2, by omega⟩
      rw [neg_one_even] at hD
      have ih := ortho k hp m (x * x) (by
        cases m with
        | zero => exact Or.inl rfl
        | succ m =>
          right
          rw [sq_pow, show m + 1 - 1 = m by omega, show 2 * 2 ^ m = 2 ^ (m + 1) by rw [Nat.pow_succ, Nat.mul_comm]]
          exact hx') E
      have e1 : sm (2 ^ m) (fun j => x ^ (j * (2 * E))) = sm (2 ^ m) (fun j => (x * x) ^ (j * E)) := sm_congr fun j _ => by
        rw [sq_pow, Nat.mul_left_comm]
      rw [e1]
      refine Eqm.trans (Eqm.add Eqm.rfl' (hD.mul Eqm.rfl')) ?_
      rw [Int.one_mul]
      refine Eqm.trans (ih.add ih) (Eqm.of ?_)
      have hiff : 2 * E % 2 ^ (m + 1) = 0 ↔ E % 2 ^ m = 0 := by
        rw [Nat.pow_succ, Nat.mul_comm (2 ^ m) 2, Nat.mul_mod_mul_left]
        omega
      by_cases he : E % 2 ^ m = 0
      · rw [if_pos he, if_pos (hiff.2 he), Int.pow_succ]; omega
      · rw [if_neg he, if_neg (fun h => he (hiff.1 h))]; omega
/-- A root of 2^m: its 2^m-th power is 1. -/
theorem root_full {k x : Int} (hp : pr k ≠ 0) {m : Nat} (hx0 : m = 0 → md k x = 1) (hx : m = 0 ∨ md k (x ^ (2 ^ (m - 1))) = pr k - 1) : Eqm k (x ^ (2 ^ m)) 1 := by
  rcases hx with h | h
  · subst h
    unfold Eqm
    rw [show (2 : Nat) ^ 0 = 1 by decide, Int.pow_succ, Int.pow_zero, Int.one_mul, hx0 rfl, md_one hp]
  · cases m with
    | zero =>
      unfold Eqm
      rw [show (2 : Nat) ^ 0 = 1 by decide, Int.pow_succ, Int.pow_zero, Int.one_mul, hx0 rfl, md_one hp]
    | succ m =>
      have h' : md k (x ^ (2 ^ m)) = pr k - 1 := h
      have hx1 : Eqm k (x ^ (2 ^ m)) (-1) := by
        refine Eqm.trans (b := pr k - 1) ?_ (Eqm.neg_one hp)
        unfold Eqm
        rw [← h', md_md]
      rw [Nat.pow_succ, Int.pow_mul]
      exact hx1.pow 2
/-- There and back. -/
theorem dft_back (k x y c : Int) (hp : pr k ≠ 0) (m : Nat) (hx0 : m = 0 → md k x = 1) (hx : m = 0 ∨ md k (x ^ (2 ^ (m - 1))) = pr k - 1) (hy : Eqm k (x * y) 1) (hc : Eqm k ((2 : Int) ^ m * c) 1) (G : Nat → Int) (t : Nat) (ht : t < 2 ^ m) :
    md k (dft k y (2 ^ m) (dft k x (2 ^ m) G) t * c) = md k (G t) := by
  have hfull := root_full hp hx0 hx
  have hn : 1 ≤ 2 ^ m := Nat.one_le_two_pow
  -- y is x to the 2^m - 1
  have hy' : Eqm k y (x ^ (2 ^ m - 1)) := by
    refine Eqm.trans (b := x ^ (2 ^ m) * y) ?_ ?_
    · refine Eqm.trans (Eqm.of (Int.one_mul y).symm) (hfull.symm.mul Eqm.rfl')
    · rw [show (2 : Nat) ^ m = (2 ^ m - 1) + 1 by omega, Int.pow_succ, Int.mul_assoc]
      refine Eqm.trans (Eqm.rfl'.mul hy) (Eqm.of ?_)
      rw [Int.mul_one]; rfl
  unfold dft
  rw [md_mul_l]
  show Eqm k _ _
  have step : Eqm k (sm (2 ^ m) fun i => md k (sm (2 ^ m) fun i_1 => G i_1 * x ^ (i_1 * i)) * y ^ (i * t))
      (sm (2 ^ m) fun i => G i * (if (i + (2 ^ m - 1) * t) % 2 ^ m = 0 then 2 ^ m else 0)) := by
    refine Eqm.trans (b := sm (2 ^ m) fun j => sm (2 ^ m) fun i => G i * x ^ (j * (i + (2 ^ m - 1) * t))) ?_ ?_
    · refine Eqm.sm fun j _ => ?_
      refine Eqm.trans (Eqm.md.mul (hy'.pow _)) (Eqm.of ?_)
      rw [← sm_mul_r]
      refine sm_congr fun i _ => ?_
      rw [Int.mul_assoc, ← Int.pow_mul, ← Int.pow_add]
      congr 2
      rw [Nat.mul_add, Nat.mul_comm i j, Nat.mul_left_comm]
    · rw [sm_swap]
      refine Eqm.sm fun i _ => ?_
      rw [sm_mul]
      exact Eqm.rfl'.mul (ortho k hp m x hx _)
  refine Eqm.trans (step.mul Eqm.rfl') ?_
  rw [sm_single ht (fun i hi hne => by
    rw [if_neg, Int.mul_zero]
    intro e
    have h1 : (i + (2 ^ m - 1) * t + t) % 2 ^ m = t % 2 ^ m := by rw [Nat.add_mod, e, Nat.zero_add, Nat.mod_mod]
    have h2 : i + (2 ^ m - 1) * t + t = i + 2 ^ m * t := by
      rw [Nat.add_assoc, Nat.sub_mul, Nat.one_mul, Nat.sub_add_cancel]
      exact Nat.le_mul_of_pos_left t (by omega)
    rw [h2, Nat.add_mul_mod_self_left, Nat.mod_eq_of_lt hi, Nat.mod_eq_of_lt ht] at h1
    exact hne h1)]
  have h3 : (t + (2 ^ m - 1) * t) % 2 ^ m = 0 := by
    have : t + (2 ^ m - 1) * t = 2 ^ m * t := by
      rw [Nat.sub_mul, Nat.one_mul, Nat.add_comm, Nat.sub_add_cancel]
      exact Nat.le_mul_of_pos_left t (by omega)
    rw [this, Nat.mul_mod_right]
  rw [if_pos h3, Int.mul_assoc]
  exact (Eqm.rfl'.mul hc).trans (Eqm.of (Int.mul_one _))

/-! products that go round -/
/-- The sum of all a i * b j, of which i and j are t together, or t and n: as the document reckons it, row by row. -/
def cyc (k : Int) (n : Nat) (a b : Nat → Int) (t : Nat) : Int := md k (sm n fun i => sm n fun j => if (i + j) % n = t then a i * b j else 0)
theorem cyc_dft (k x : Int) (n : Nat) (hn : 0 < n) (hx : Eqm k (x ^ n) 1) (a b : Nat → Int) (t : Nat) : dft k x n (cyc k n a b) t = md k (dft k x n a t * dft k x n b t) := by
  unfold dft
  rw [md_mul]
  show Eqm k _ _
  refine Eqm.trans (b := sm n fun s => sm n fun i => sm n fun j => (if (i + j) % n = s then a i * b j else 0) * x ^ (s * t)) ?_ ?_
  · refine Eqm.sm fun s _ => ?_
    unfold cyc
    refine Eqm.trans (Eqm.md.mul Eqm.rfl') (Eqm.of ?_)
    rw [← sm_mul_r]
    exact sm_congr fun i _ => by rw [← sm_mul_r]
  · rw [sm_swap]
    refine Eqm.trans (b := sm n fun i => sm n fun j => a i * x ^ (i * t) * (b j * x ^ (j * t))) ?_ ?_
    · refine Eqm.sm fun i _ => ?_
      rw [sm_swap]
      refine Eqm.sm fun j _ => ?_
      rw [sm_single (j := (i + j) % n) (Nat.mod_lt _ hn) (fun s _ hne => by rw [if_neg (fun e => hne e.symm), Int.zero_mul]), if_pos rfl]
      have h1 : Eqm k (x ^ ((i + j) % n * t)) (x ^ ((i + j) * t)) := by
        have e : (i + j) * t = (i + j) % n * t + n * ((i + j) / n * t) := by
          rw [← Nat.mul_assoc, ← Nat.add_mul, Nat.mod_add_div]
        rw [e, Int.pow_add, show x ^ (n * ((i + j) / n * t)) = (x ^ n) ^ ((i + j) / n * t) from Int.pow_mul]
        refine Eqm.trans (Eqm.of (Int.mul_one _).symm) (Eqm.rfl'.mul ?_)
        refine Eqm.trans (Eqm.of (Int.one_pow (n := (i + j) / n * t)).symm) (hx.symm.pow _)
      refine Eqm.trans (Eqm.rfl'.mul h1) (Eqm.of ?_)
      rw [Nat.add_mul, Int.pow_add]
      ac_rfl
    · refine Eqm.of ?_
      rw [← sm_mul_r]
      exact sm_congr fun i _ => sm_mul _ _ _
/-- The transform is a sum's. -/
theorem dft_lin (k x c : Int) (n : Nat) (G H : Nat → Int) (j : Nat) : dft k x n (fun i => md k (G i + md k (H i * c))) j = md k (dft k x n G j + md k (dft k x n H j * c)) := by
  unfold dft
  rw [md_mul_l, md_add]
  show Eqm k _ _
  rw [← sm_mul_r, ← sm_add]
  refine Eqm.sm fun i _ => ?_
  refine Eqm.trans ((Eqm.md.trans (Eqm.rfl'.add Eqm.md)).mul Eqm.rfl') (Eqm.of ?_)
  rw [Int.add_mul]
  congr 1
  ac_rfl
/-- Moved by one place. -/
def mov (n : Nat) (G : Nat → Int) : Nat → Int := fun i => if i = 0 then G (n - 1) else G (i - 1)
theorem dft_mov (k x : Int) (n : Nat) (hn : 0 < n) (hx : Eqm k (x ^ n) 1) (G : Nat → Int) (j : Nat) : dft k x n (mov n G) j = md k (dft k x n G j * md k (x ^ j)) := by
  obtain ⟨m, rfl⟩ : ∃ m, n = m + 1 := ⟨n - 1, by omega⟩
  unfold dft
  rw [md_mul]
  show Eqm k _ _
  have e1 : sm (m + 1) (fun i => mov (m + 1) G i * x ^ (i * j)) = G m * 1 + sm m (fun i => G i * x ^ ((i + 1) * j)) := by
    rw [Nat.add_comm m 1, sm_app]
    simp only [sm, mov]
    rw [if_pos True.intro, Nat.zero_mul, Int.pow_zero, Int.zero_add, show 1 + m - 1 = m by omega]
    congr 1
    refine sm_congr fun i _ => ?_
    rw [if_neg (by omega), show 1 + i - 1 = i by omega, Nat.add_comm 1 i]
  rw [e1, sm, Int.add_mul]
  refine Eqm.trans (b := G m * x ^ (m * j) * x ^ j + sm m (fun i => G i * x ^ (i * j)) * x ^ j) (Eqm.add ?_ (Eqm.of ?_)) (Eqm.of (Int.add_comm _ _))
  · rw [Int.mul_assoc, ← Int.pow_add, show m * j + j = (m + 1) * j by rw [Nat.add_mul, Nat.one_mul], Int.pow_mul]
    exact Eqm.rfl'.mul ((Eqm.of (Int.one_pow (n := j)).symm).trans (hx.symm.pow j))
  · rw [← sm_mul_r]
    refine sm_congr fun i _ => ?_
    rw [Int.mul_assoc, ← Int.pow_add, Nat.add_mul, Nat.one_mul]

end Go.Proofs.YtlogdjhnhnfbkaaDoor.Res

namespace Go.Proofs.YtlogdjhnhnfbkaaDoor.Res

/-- The digits. -/
def d0 (x : Int) : Int := x % 998244353
def d1 (x y : Int) : Int := ((y - d0 x) * 47450712) % 167772161
def d2 (x y z : Int) : Int := ((z - (d0 x + d1 x y * 998244353)) * 115990628) % 469762049
/-- The number of the digits. -/
def nm (x y z : Int) : Int := d0 x + 998244353 * (d1 x y + 167772161 * d2 x y z)
theorem pr0 : pr 0 = 998244353 := by decide
theorem pr1 : pr 1 = 167772161 := by decide
theorem pr2 : pr 2 = 469762049 := by decide
theorem md0 (a : Int) : md 0 a = a % 998244353 := by rw [md_some (by decide), pr0]
theorem md1 (a : Int) : md 1 a = a % 167772161 := by rw [md_some (by decide), pr1]
theorem md2 (a : Int) : md 2 a = a % 469762049 := by rw [md_some (by decide), pr2]
theorem d0_bd (x : Int) : 0 ≤ d0 x ∧ d0 x < 998244353 := by unfold d0; omega
theorem d1_bd (x y : Int) : 0 ≤ d1 x y ∧ d1 x y < 167772161 := by unfold d1; omega
theorem d2_bd (x y z : Int) : 0 ≤ d2 x y z ∧ d2 x y z < 469762049 := by unfold d2; omega
theorem nm_nonneg (x y z : Int) : 0 ≤ nm x y z := by
  have := d0_bd x; have := d1_bd x y; have := d2_bd x y z
  unfold nm; omega
theorem nm_res0 (x y z : Int) : md 0 (nm x y z) = md 0 x := by rw [md0, md0]; unfold nm d0; omega
theorem nm_res1 (x y z : Int) : md 1 (nm x y z) = md 1 y := by
  rw [md1, md1]; unfold nm d1
  generalize d0 x = a
  generalize d2 x y z = c
  omega
theorem nm_res2 (x y z : Int) : md 2 (nm x y z) = md 2 z := by
  rw [md2, md2]; unfold nm d2
  generalize d0 x = a
  generalize d1 x y = b
  omega
/-- A number below the product of the primes is that of its residues. -/
theorem nm_back {x y z n : Int} (h0 : 0 ≤ n) (h1 : n < 78674626319836206717730817) (e0 : md 0 x = md 0 n) (e1 : md 1 y = md 1 n) (e2 : md 2 z = md 2 n) : nm x y z = n := by
  rw [md0, md0] at e0
  rw [md1, md1] at e1
  rw [md2, md2] at e2
  have a0 : d0 x = n % 998244353 := e0
  have a1 : d1 x y = n / 998244353 % 167772161 := by
    unfold d1; rw [a0]; omega
  have a2 : d2 x y z = n / 998244353 / 167772161 % 469762049 := by
    unfold d2; rw [a1, a0]
    have : n = n % 998244353 + 998244353 * (n / 998244353) := by omega
    have : n / 998244353 = n / 998244353 % 167772161 + 167772161 * (n / 998244353 / 167772161) := by omega
    generalize n / 998244353 / 167772161 = q at *
    generalize n / 998244353 % 167772161 = b at *
    generalize n / 998244353 = u at *
    generalize n % 998244353 = a at *
    omega
  unfold nm; rw [a0, a1, a2]
  have : n / 998244353 / 167772161 < 469762049 := by omega
  omega
/-- What is taken off, place by place. -/
def ah (D : Nat → Int) (k : Nat) : Nat → Int
  | 0 => 0
  | i + 1 => md k (md k (ah D k i * pr ((k : Int) - 1 - i)) + D (k - 1 - i))
/-- Three numbers as a row. -/
def r3 (x y z : Int) (t : Nat) : Int := if t = 0 then x else if t = 1 then y else z
theorem ah_nonneg (D : Nat → Int) (k i : Nat) : 0 ≤ ah D k i := by
  cases i with
  | zero => exact Int.le_refl 0
  | succ i => exact md_nonneg _ _
theorem digit (x y z : Int) (k : Nat) (hk : k < 3) : md k (md k (r3 x y z k - ah (r3 (d0 x) (d1 x y) (d2 x y z)) k k) * r3 1 47450712 115990628 k) = r3 (d0 x) (d1 x y) (d2 x y z) k := by
  match k, hk with
  | 0, _ => show md 0 (md 0 (x - 0) * 1) = d0 x; rw [md0, md0]; unfold d0; omega
  | 1, _ =>
    show md 1 (md 1 (y - md 1 (md 1 (0 * pr 0) + d0 x)) * 47450712) = d1 x y
    rw [md1, md1, md1, md1, Int.zero_mul]; unfold d1
    generalize d0 x = a
    omega
  | 2, _ =>
    show md 2 (md 2 (z - md 2 (md 2 (md 2 (md 2 (0 * pr 1) + d1 x y) * pr 0) + d0 x)) * 115990628) = d2 x y z
    rw [md2, md2, md2, md2, md2, md2, Int.zero_mul, pr0]; unfold d2
    generalize d0 x = a
    generalize d1 x y = b
    omega
/-- The number, prime by prime from the last one. -/
def hn (x y z : Int) : Nat → Int
  | 0 => 0
  | 1 => d2 x y z
  | 2 => d2 x y z * 167772161 + d1 x y
  | _ => (d2 x y z * 167772161 + d1 x y) * 998244353 + d0 x
theorem hn_three (x y z : Int) : hn x y z 3 = nm x y z := by show (d2 x y z * 167772161 + d1 x y) * 998244353 + d0 x = _; unfold nm; omega
theorem hn_step (x y z : Int) (i j : Nat) (h : i + j = 2) : hn x y z (i + 1) = hn x y z i * pr j + r3 (d0 x) (d1 x y) (d2 x y z) j := by
  have : i = 0 ∨ i = 1 ∨ i = 2 := by omega
  rcases this with rfl | rfl | rfl
  · obtain rfl : j = 2 := by omega
    show d2 x y z = 0 * _ + d2 x y z
    omega
  · obtain rfl : j = 1 := by omega
    show _ = d2 x y z * pr 1 + d1 x y
    rw [pr1]; rfl
  · obtain rfl : j = 0 := by omega
    show _ = (d2 x y z * 167772161 + d1 x y) * pr 0 + d0 x
    rw [pr0]; rfl
theorem hn_nonneg (x y z : Int) (i : Nat) : 0 ≤ hn x y z i := by
  have := d0_bd x; have := d1_bd x y; have := d2_bd x y z
  unfold hn; split <;> omega
theorem hn_le (x y z : Int) (i : Nat) (hi : i ≤ 3) : hn x y z i ≤ nm x y z := by
  have := d0_bd x; have := d1_bd x y; have := d2_bd x y z
  unfold nm
  have : i = 0 ∨ i = 1 ∨ i = 2 ∨ i = 3 := by omega
  rcases this with rfl | rfl | rfl | rfl
  · show 0 ≤ _; omega
  · show d2 x y z ≤ _; omega
  · show d2 x y z * 167772161 + d1 x y ≤ _; omega
  · show (d2 x y z * 167772161 + d1 x y) * 998244353 + d0 x ≤ _; omega
theorem r3_nonneg {x y z : Int} (hx : 0 ≤ x) (hy : 0 ≤ y) (hz : 0 ≤ z) (t : Nat) : 0 ≤ r3 x y z t := by unfold r3; split; exact hx; split; exact hy; exact hz
theorem dig_nonneg (x y z : Int) (t : Nat) : 0 ≤ r3 (d0 x) (d1 x y) (d2 x y z) t := r3_nonneg (d0_bd x).1 (d1_bd x y).1 (d2_bd x y z).1 t
/-- The product of the primes ahead. -/
def pa (k : Nat) : Nat → Int
  | 0 => 1
  | i + 1 => md k (pa k i * pr i)
theorem pa_nonneg (k i : Nat) : 0 ≤ pa k i := by
  cases i with
  | zero => show (0 : Int) ≤ 1; omega
  | succ i => exact md_nonneg _ _
theorem pa_inv (k : Nat) (hk : k < 3) : md k (pa k k) ≠ 0 ∧ md k ((pa k k) ^ (pr k - 2).toNat) = r3 1 47450712 115990628 k := by
  match k, hk with
  | 0, _ => exact ⟨by decide, inv_unique (k := 0) (a := 1) (inv_right 0 1 (by decide) (by decide) (by decide)) (by decide) (md_nonneg _ _) (md_lt (by decide) _) (by decide) (by decide)⟩
  | 1, _ => exact ⟨by decide, inv_unique (k := 1) (a := 159383548) (inv_right 1 159383548 (by decide) (by decide) (by decide)) (by decide) (md_nonneg _ _) (md_lt (by decide) _) (by decide) (by decide)⟩
  | 2, _ => exact ⟨by decide, inv_unique (k := 2) (a := 339738624) (inv_right 2 339738624 (by decide) (by decide) (by decide)) (by decide) (md_nonneg _ _) (md_lt (by decide) _) (by decide) (by decide)⟩

end Go.Proofs.YtlogdjhnhnfbkaaDoor.Res

namespace Go.Proofs.YtlogdjhnhnfbkaaDoor.Res

/-- A row, and zeros behind it. -/
def pd (n : Nat) (a : Nat → Int) : Nat → Int := fun i => if i < n then a i else 0
/-- Place t of the product of two rows. -/
def cv (n m : Nat) (a b : Nat → Int) (t : Nat) : Int := sm n fun i => sm m fun j => if i + j = t then a i * b j else 0
/-- Place i of a row along another one. -/
def cr (n : Nat) (p t : Nat → Int) (i : Nat) : Int := sm n fun j => p j * t (i + j)

theorem sm_trunc {n N : Nat} (h : n ≤ N) {f : Nat → Int} (hf : ∀ i, n ≤ i → i < N → f i = 0) : sm N f = sm n f := by
  obtain ⟨d, rfl⟩ := Nat.exists_eq_add_of_le h
  rw [sm_app, sm_congr (n := d) (g := fun _ => 0) (fun i hi => hf (n + i) (by omega) (by omega)), sm_zero, Int.add_zero]
theorem sm_le {n : Nat} {f g : Nat → Int} (h : ∀ i, i < n → f i ≤ g i) : sm n f ≤ sm n g := by
  induction n with
  | zero => exact Int.le_refl 0
  | succ n ih => exact Int.add_le_add (ih fun i hi => h i (by omega)) (h n (by omega))
theorem sm_nonneg {n : Nat} {f : Nat → Int} (h : ∀ i, i < n → 0 ≤ f i) : 0 ≤ sm n f := by
  have := sm_le (n := n) (f := fun _ => 0) (g := f) h
  rwa [sm_zero] at this
theorem sm_mono {i n : Nat} (hi : i ≤ n) {f : Nat → Int} (h : ∀ t, t < n → 0 ≤ f t) : sm i f ≤ sm n f := by
  obtain ⟨d, rfl⟩ := Nat.exists_eq_add_of_le hi
  rw [sm_app]
  have := sm_nonneg (n := d) (f := fun t => f (i + t)) (fun t ht => h (i + t) (by omega))
  omega
theorem sm_const (n : Nat) (c : Int) : sm n (fun _ => c) = (n : Int) * c := by
  have h := sm_mul_r n c (fun _ => 1)
  rw [sm_one] at h
  rw [← h]
  exact sm_congr fun _ _ => (Int.one_mul c).symm
theorem sm_rev : ∀ (n : Nat) (f : Nat → Int), sm n (fun i => f (n - 1 - i)) = sm n f
  | 0, _ => rfl
  | n + 1, f => by
    have h1 := sm_app 1 n (fun i => f (n + 1 - 1 - i))
    rw [Nat.add_comm 1 n] at h1
    rw [h1]
    have h2 : sm n (fun i => f (n + 1 - 1 - (1 + i))) = sm n f := by
      rw [← sm_rev n f]
      exact sm_congr fun i hi => by rw [show n + 1 - 1 - (1 + i) = n - 1 - i by omega]
    rw [h2]
    show 0 + f (n + 1 - 1 - 0) + sm n f = sm n f + f n
    rw [show n + 1 - 1 - 0 = n by omega]
    omega

theorem cv_comm (n m : Nat) (a b : Nat → Int) (t : Nat) : cv n m a b t = cv m n b a t := by
  unfold cv
  rw [sm_swap]
  exact sm_congr fun j _ => sm_congr fun i _ => by rw [Nat.add_comm i j, Int.mul_comm]
/-- Term by term, as the document sums. -/
def tm (m : Nat) (a b : Nat → Int) (t i : Nat) : Int := if i ≤ t ∧ t - i < m then a i * b (t - i) else 0
theorem cv_row (n m : Nat) (a b : Nat → Int) (t : Nat) : cv n m a b t = sm n (tm m a b t) := by
  unfold cv
  refine sm_congr fun i _ => ?_
  unfold tm
  by_cases h : i ≤ t ∧ t - i < m
  · rw [if_pos h, sm_single h.2 (fun j _ hj => if_neg (by omega)), if_pos (by omega)]
  · rw [if_neg h]
    rw [sm_congr (g := fun _ => 0) (fun j hj => if_neg (by omega)), sm_zero]
theorem tm_nonneg {m : Nat} {a b : Nat → Int} (ha : ∀ i, 0 ≤ a i) (hb : ∀ i, 0 ≤ b i) (t i : Nat) : 0 ≤ tm m a b t i := by
  unfold tm; split
  · exact Int.mul_nonneg (ha _) (hb _)
  · exact Int.le_refl 0
theorem tm_le {m : Nat} {a b : Nat → Int} {X Y : Int} (hb : ∀ i, 0 ≤ b i) (hX : 0 ≤ X) (hY : 0 ≤ Y) (t i : Nat) (hax : a i ≤ X) (hby : ∀ j, j < m → b j ≤ Y) : tm m a b t i ≤ X * Y := by
  unfold tm; split
  · rename_i h
    exact Int.mul_le_mul hax (hby _ h.2) (hb _) hX
  · exact Int.mul_nonneg hX hY
theorem cv_nonneg {n m : Nat} {a b : Nat → Int} (ha : ∀ i, 0 ≤ a i) (hb : ∀ i, 0 ≤ b i) (t : Nat) : 0 ≤ cv n m a b t := by
  rw [cv_row]; exact sm_nonneg fun i _ => tm_nonneg ha hb t i
/-- No more than the greatest ones' product, as often as a has numbers. -/
theorem cv_le {n m : Nat} {a b : Nat → Int} {X Y : Int} (hb : ∀ i, 0 ≤ b i) (hX : 0 ≤ X) (hY : 0 ≤ Y) (hax : ∀ i, i < n → a i ≤ X) (hby : ∀ j, j < m → b j ≤ Y) (t : Nat) : cv n m a b t ≤ (n : Int) * (X * Y) := by
  rw [cv_row, ← sm_const]
  exact sm_le fun i hi => tm_le hb hX hY t i (hax i hi) hby
theorem cv_le' {n m : Nat} {a b : Nat → Int} {X Y : Int} (ha : ∀ i, 0 ≤ a i) (hX : 0 ≤ X) (hY : 0 ≤ Y) (hax : ∀ i, i < n → a i ≤ X) (hby : ∀ j, j < m → b j ≤ Y) (t : Nat) : cv n m a b t ≤ (m : Int) * (X * Y) := by
  rw [cv_comm, Int.mul_comm X Y]
  exact cv_le ha hY hX hby hax t
/-- One sum of the document's, up to a place. -/
theorem part_le {n m i : Nat} (hi : i ≤ n) {a b : Nat → Int} (ha : ∀ i, 0 ≤ a i) (hb : ∀ i, 0 ≤ b i) (t : Nat) : sm i (tm m a b t) ≤ cv n m a b t := by
  rw [cv_row]; exact sm_mono hi fun j _ => tm_nonneg ha hb t j
theorem cv_add (n m : Nat) (a b c : Nat → Int) (t : Nat) : cv n m a (fun i => b i + c i) t = cv n m a b t + cv n m a c t := by
  rw [cv_row, cv_row, cv_row, ← sm_add]
  refine sm_congr fun i _ => ?_
  unfold tm
  split
  · exact Int.mul_add _ _ _
  · rfl
theorem cv_congr {n m : Nat} {a b c d : Nat → Int} (h : ∀ i, i < n → a i = c i) (g : ∀ j, j < m → b j = d j) (t : Nat) : cv n m a b t = cv n m c d t := by
  unfold cv
  exact sm_congr fun i hi => sm_congr fun j hj => by rw [h i hi, g j hj]
/-- Round and round in a row that is long enough, nothing comes round. -/
theorem cyc_cv (k : Int) (n m N : Nat) (hn : 1 ≤ n) (hm : 1 ≤ m) (hN : n + m - 1 ≤ N) (a b : Nat → Int) (t : Nat) : cyc k N (pd n a) (pd m b) t = md k (cv n m a b t) := by
  unfold cyc cv
  congr 1
  rw [sm_trunc (n := n) (by omega) (fun i hi _ => ?_)]
  · refine sm_congr fun i hi => ?_
    rw [sm_trunc (n := m) (by omega) (fun j hj _ => ?_)]
    · refine sm_congr fun j hj => ?_
      rw [Nat.mod_eq_of_lt (by omega), pd, pd, if_pos hi, if_pos hj]
    · rw [show pd m b j = 0 from if_neg (by omega), Int.mul_zero, ite_self]
  · rw [sm_congr (g := fun _ => 0) (fun j _ => by rw [show pd n a i = 0 from if_neg (by omega), Int.zero_mul, ite_self]), sm_zero]
/-- A sum that is below 2^64 is joined of its residues. -/
theorem nm_of {v : Int} (h0 : 0 ≤ v) (h1 : v ≤ 18446744073709551615) : nm (md 0 v) (md 1 v) (md 2 v) = v := nm_back h0 (by omega) (md_md _ _) (md_md _ _) (md_md _ _)
/-- The row the other way round. -/
theorem cr_cv (n m : Nat) (p t : Nat → Int) (i : Nat) (hi : i + n ≤ m) : cv m n t (fun j => p (n - 1 - j)) (i + n - 1) = cr n p t i := by
  rw [cv_comm, cv_row]
  unfold cr
  rw [← sm_rev n (fun j => p j * t (i + j))]
  refine sm_congr fun j hj => ?_
  unfold tm
  rw [if_pos (by omega), show i + n - 1 - j = i + (n - 1 - j) by omega]
theorem cr_nonneg {n : Nat} {p t : Nat → Int} (hp : ∀ i, 0 ≤ p i) (ht : ∀ i, 0 ≤ t i) (i : Nat) : 0 ≤ cr n p t i := sm_nonneg fun _ _ => Int.mul_nonneg (hp _) (ht _)
theorem cr_le {n m : Nat} {p t : Nat → Int} {X Y : Int} (ht : ∀ i, 0 ≤ t i) (hX : 0 ≤ X) (hpx : ∀ i, i < n → p i ≤ X) (hty : ∀ j, j < m → t j ≤ Y) (i : Nat) (hi : i + n ≤ m) : cr n p t i ≤ (n : Int) * (X * Y) := by
  unfold cr
  rw [← sm_const]
  exact sm_le fun j hj => Int.mul_le_mul (hpx j hj) (hty _ (by omega)) (ht _) hX

end Go.Proofs.YtlogdjhnhnfbkaaDoor.Res

namespace Go.Proofs.YtlogdjhnhnfbkaaDoor.Res

/-- The greatest of n numbers; 0 of none. -/
def gr : Nat → (Nat → Int) → Int
  | 0, _ => 0
  | n + 1, L => if gr n L < L n then L n else gr n L
theorem gr_up {n : Nat} {L : Nat → Int} (h : gr n L < L n) : gr (n + 1) L = L n := if_pos h
theorem gr_stay {n : Nat} {L : Nat → Int} (h : ¬ gr n L < L n) : gr (n + 1) L = gr n L := if_neg h
theorem gr_mono (n : Nat) (L : Nat → Int) : gr n L ≤ gr (n + 1) L := by
  by_cases h : gr n L < L n
  · rw [gr_up h]; omega
  · rw [gr_stay h]; omega
theorem gr_nonneg : ∀ (n : Nat) (L : Nat → Int), 0 ≤ gr n L
  | 0, _ => Int.le_refl 0
  | n + 1, L => Int.le_trans (gr_nonneg n L) (gr_mono n L)
theorem gr_le : ∀ (n : Nat) (L : Nat → Int) (t : Nat), t < n → L t ≤ gr n L
  | 0, _, _, h => by omega
  | n + 1, L, t, h => by
    by_cases e : t = n
    · subst e
      by_cases h2 : gr t L < L t
      · rw [gr_up h2]; omega
      · rw [gr_stay h2]; omega
    · exact Int.le_trans (gr_le n L t (by omega)) (gr_mono n L)
theorem gr_hi {L : Nat → Int} {M : Int} (h0 : 0 ≤ M) (h : ∀ t, L t ≤ M) : ∀ n, gr n L ≤ M
  | 0 => h0
  | n + 1 => by
    by_cases h2 : gr n L < L n
    · rw [gr_up h2]; exact h n
    · rw [gr_stay h2]; exact gr_hi h0 h n
theorem gr_congr {L M : Nat → Int} : ∀ (n : Nat), (∀ t, t < n → L t = M t) → gr n L = gr n M
  | 0, _ => rfl
  | n + 1, h => by
    show (if gr n L < L n then L n else gr n L) = (if gr n M < M n then M n else gr n M)
    rw [gr_congr n (fun t ht => h t (by omega)), h n (by omega)]
/-- The greatest one hangs not on the order. -/
theorem gr_rev (n : Nat) (L : Nat → Int) (h0 : ∀ t, 0 ≤ L t) : gr n (fun j => L (n - 1 - j)) = gr n L := by
  have up : ∀ (n : Nat) (L M : Nat → Int), (∀ t, t < n → ∃ s, s < n ∧ L t ≤ M s) → (∀ t, 0 ≤ M t) → gr n L ≤ gr n M := fun n L M h hM => by
    have : ∀ k, k ≤ n → gr k L ≤ gr n M := by
      intro k
      induction k with
      | zero => intro _; exact gr_nonneg n M
      | succ k ih =>
        intro hk
        by_cases h2 : gr k L < L k
        · rw [gr_up h2]
          obtain ⟨s, hs, hle⟩ := h k (by omega)
          exact Int.le_trans hle (gr_le n M s hs)
        · rw [gr_stay h2]; exact ih (by omega)
    exact this n (Nat.le_refl n)
  apply Int.le_antisymm
  · exact up n _ _ (fun t ht => ⟨n - 1 - t, by omega, Int.le_refl _⟩) h0
  · refine up n _ _ (fun t ht => ⟨n - 1 - t, by omega, ?_⟩) (fun t => h0 _)
    show L t ≤ L (n - 1 - (n - 1 - t))
    rw [show n - 1 - (n - 1 - t) = t by omega]
    exact Int.le_refl _

theorem lg_of (n : Nat) (h2 : n ≤ 4096) : ∃ m : Nat, m ≤ 12 ∧ n ≤ 2 ^ m ∧ ∀ i, i < m → 2 ^ i < n := by
  have key : ∀ M : Nat, n ≤ 2 ^ M → ∃ m : Nat, m ≤ M ∧ n ≤ 2 ^ m ∧ ∀ i, i < m → 2 ^ i < n := by
    intro M
    induction M with
    | zero => intro h; exact ⟨0, Nat.le_refl _, h, fun i hi => by omega⟩
    | succ M ih =>
      intro h
      by_cases hM : n ≤ 2 ^ M
      · obtain ⟨m, hm, ha, hb⟩ := ih hM
        exact ⟨m, by omega, ha, hb⟩
      · exact ⟨M + 1, Nat.le_refl _, h, fun i hi => Nat.lt_of_le_of_lt (Nat.pow_le_pow_right (by omega) (by omega)) (Nat.lt_of_not_le hM)⟩
  exact key 12 (by omega)

/-- Which error two rows have that are not empty; X and Y are the greatest of them. -/
def er (n m : Nat) (X Y : Int) : Int := if 4097 < n + m then 41 else if 18446744073709551616 ≤ X * Y * ((min n m : Nat) : Int) then 40 else 0
theorem er_comm (n m : Nat) (X Y : Int) : er n m X Y = er m n Y X := by
  unfold er
  rw [Nat.add_comm n m, Int.mul_comm X Y, Nat.min_comm n m]
theorem er_long {n m : Nat} {X Y : Int} (h : 4097 < n + m) : er n m X Y = 41 := if_pos h
theorem er_big {n m : Nat} {X Y : Int} (h : ¬ 4097 < n + m) (h2 : 18446744073709551616 ≤ X * Y * ((min n m : Nat) : Int)) : er n m X Y = 40 := by unfold er; rw [if_neg h, if_pos h2]
theorem er_ok {n m : Nat} {X Y : Int} (h : ¬ 4097 < n + m) (h2 : ¬ 18446744073709551616 ≤ X * Y * ((min n m : Nat) : Int)) : er n m X Y = 0 := by unfold er; rw [if_neg h, if_neg h2]
theorem er_zero {n m : Nat} {X Y : Int} (h : er n m X Y = 0) : n + m ≤ 4097 ∧ X * Y * ((min n m : Nat) : Int) ≤ 18446744073709551615 := by
  by_cases h1 : 4097 < n + m
  · rw [er_long h1] at h; omega
  · by_cases h2 : 18446744073709551616 ≤ X * Y * ((min n m : Nat) : Int)
    · rw [er_big h1 h2] at h; omega
    · omega

/-- Product of the two greatest ones, in halves: as the program asks. -/
theorem halves_big {P k : Int} (hP : 0 ≤ P) (hk : 1 ≤ k) : (P / 18446744073709551616 = 0 ∧ P % 18446744073709551616 * k / 18446744073709551616 = 0) ↔ ¬ 18446744073709551616 ≤ P * k := by
  have h1 : P * 1 ≤ P * k := Int.mul_le_mul_of_nonneg_left hk hP
  have h0 : 0 ≤ P * k := Int.mul_nonneg hP (by omega)
  by_cases h : 18446744073709551616 ≤ P
  · constructor
    · rintro ⟨ha, _⟩; omega
    · intro hn; omega
  · have e : P % 18446744073709551616 = P := by omega
    rw [e]
    generalize P * k = Q at *
    omega
/-- By quotients: as the document asks. -/
theorem quot_big {x y : Int} (hx : 0 < x) : 18446744073709551615 / x < y ↔ 18446744073709551616 ≤ x * y := by
  rw [Int.ediv_lt_iff_lt_mul hx, Int.mul_comm y x]
  omega

/-- Which error there is; how many numbers are told. -/
def ec (n m : Nat) (A B : Nat → Int) : Int := if n = 0 ∨ m = 0 then 0 else er n m (gr n A) (gr m B)
def ln (n m : Nat) (A B : Nat → Int) : Nat := if n = 0 ∨ m = 0 then 0 else if er n m (gr n A) (gr m B) = 0 then n + m - 1 else 0
theorem ec_none {n m : Nat} {A B : Nat → Int} (h : n = 0 ∨ m = 0) : ec n m A B = 0 := if_pos h
theorem ln_none {n m : Nat} {A B : Nat → Int} (h : n = 0 ∨ m = 0) : ln n m A B = 0 := if_pos h
theorem ec_some {n m : Nat} {A B : Nat → Int} (h : ¬ (n = 0 ∨ m = 0)) : ec n m A B = er n m (gr n A) (gr m B) := if_neg h
theorem ln_ok {n m : Nat} {A B : Nat → Int} (h : ¬ (n = 0 ∨ m = 0)) (h2 : er n m (gr n A) (gr m B) = 0) : ln n m A B = n + m - 1 := by unfold ln; rw [if_neg h, if_pos h2]
theorem ln_no {n m : Nat} {A B : Nat → Int} (h : ¬ (n = 0 ∨ m = 0)) (h2 : er n m (gr n A) (gr m B) ≠ 0) : ln n m A B = 0 := by unfold ln; rw [if_neg h, if_neg h2]
theorem ec_comm (n m : Nat) (A B : Nat → Int) : ec n m A B = ec m n B A := by
  unfold ec
  rw [er_comm]
  by_cases h : n = 0 ∨ m = 0
  · rw [if_pos h, if_pos (Or.comm.1 h)]
  · rw [if_neg h, if_neg (fun e => h (Or.comm.1 e))]
theorem ln_comm (n m : Nat) (A B : Nat → Int) : ln n m A B = ln m n B A := by
  unfold ln
  rw [er_comm, Nat.add_comm n m]
  by_cases h : n = 0 ∨ m = 0
  · rw [if_pos h, if_pos (Or.comm.1 h)]
  · rw [if_neg h, if_neg (fun e => h (Or.comm.1 e))]
theorem ln_le (n m : Nat) (A B : Nat → Int) : ln n m A B ≤ 4096 := by
  by_cases h : n = 0 ∨ m = 0
  · rw [ln_none h]; omega
  · by_cases h2 : er n m (gr n A) (gr m B) = 0
    · rw [ln_ok h h2]; have := (er_zero h2).1; omega
    · rw [ln_no h h2]; omega
/-- No sum reaches 2^64. -/
theorem cv_fits {n m : Nat} {A B : Nat → Int} (hA : ∀ t, 0 ≤ A t) (hB : ∀ t, 0 ≤ B t) (h : er n m (gr n A) (gr m B) = 0) (t : Nat) : cv n m A B t ≤ 18446744073709551615 := by
  have hz := (er_zero h).2
  by_cases hnm : n ≤ m
  · have := cv_le (n := n) (m := m) (a := A) (b := B) (X := gr n A) (Y := gr m B) hB (gr_nonneg _ _) (gr_nonneg _ _) (gr_le n A) (gr_le m B) t
    rw [Nat.min_eq_left hnm, Int.mul_comm] at hz
    omega
  · have := cv_le' (n := n) (m := m) (a := A) (b := B) (X := gr n A) (Y := gr m B) hA (gr_nonneg _ _) (gr_nonneg _ _) (gr_le n A) (gr_le m B) t
    rw [Nat.min_eq_right (by omega), Int.mul_comm] at hz
    omega

/-! a product, row by row: as the program adds -/
def cp (m : Nat) (a b : Nat → Int) (j i t : Nat) : Int :=
  sm j (fun j' => sm m fun i' => if j' + i' = t then a j' * b i' else 0) + sm i (fun i' => if j + i' = t then a j * b i' else 0)
theorem cp_at (m : Nat) (a b : Nat → Int) (j i : Nat) : cp m a b j i (j + i) + a j * b i = cp m a b j (i + 1) (j + i) := by
  unfold cp
  rw [show sm (i + 1) (fun i' => if j + i' = j + i then a j * b i' else 0) = sm i (fun i' => if j + i' = j + i then a j * b i' else 0) + (if j + i = j + i then a j * b i else 0) from rfl, if_pos rfl, Int.add_assoc]
theorem cp_off (m : Nat) (a b : Nat → Int) (j i t : Nat) (h : t ≠ j + i) : cp m a b j (i + 1) t = cp m a b j i t := by
  unfold cp
  rw [show sm (i + 1) (fun i' => if j + i' = t then a j * b i' else 0) = sm i (fun i' => if j + i' = t then a j * b i' else 0) + (if j + i = t then a j * b i else 0) from rfl, if_neg (fun e => h e.symm), Int.add_zero]
theorem cp_row (m : Nat) (a b : Nat → Int) (j t : Nat) : cp m a b j m t = cp m a b (j + 1) 0 t := by
  unfold cp
  rw [show sm (j + 1) (fun j' => sm m fun i' => if j' + i' = t then a j' * b i' else 0) = sm j (fun j' => sm m fun i' => if j' + i' = t then a j' * b i' else 0) + (sm m fun i' => if j + i' = t then a j * b i' else 0) from rfl]
  rw [show sm 0 (fun i' => if j + 1 + i' = t then a (j + 1) * b i' else 0) = 0 from rfl, Int.add_zero]
theorem cp_zero (m : Nat) (a b : Nat → Int) (t : Nat) : cp m a b 0 0 t = 0 := rfl
theorem cp_fin (n m : Nat) (a b : Nat → Int) (t : Nat) : cp m a b n 0 t = cv n m a b t := by
  unfold cp cv
  rw [show sm 0 (fun i' => if n + i' = t then a n * b i' else 0) = 0 from rfl, Int.add_zero]
theorem cp_nonneg {m : Nat} {a b : Nat → Int} (ha : ∀ t, 0 ≤ a t) (hb : ∀ t, 0 ≤ b t) (j i t : Nat) : 0 ≤ cp m a b j i t := by
  unfold cp
  have h1 := sm_nonneg (n := j) (f := fun j' => sm m fun i' => if j' + i' = t then a j' * b i' else 0) (fun j' _ => sm_nonneg fun i' _ => by
    split
    · exact Int.mul_nonneg (ha _) (hb _)
    · exact Int.le_refl 0)
  have h2 := sm_nonneg (n := i) (f := fun i' => if j + i' = t then a j * b i' else 0) (fun i' _ => by
    split
    · exact Int.mul_nonneg (ha _) (hb _)
    · exact Int.le_refl 0)
  omega
theorem cp_le {n m : Nat} {a b : Nat → Int} (ha : ∀ t, 0 ≤ a t) (hb : ∀ t, 0 ≤ b t) (j i t : Nat) (hj : j < n) (hi : i ≤ m) : cp m a b j i t ≤ cv n m a b t := by
  have h1 : cp m a b j i t ≤ cp m a b j m t := by
    unfold cp
    have := sm_mono (i := i) (n := m) hi (f := fun i' => if j + i' = t then a j * b i' else 0) (fun i' _ => by
      split
      · exact Int.mul_nonneg (ha _) (hb _)
      · exact Int.le_refl 0)
    omega
  have h2 : cp m a b (j + 1) 0 t ≤ cv n m a b t := by
    rw [cp_fin (j + 1)]
    exact sm_mono (i := j + 1) (n := n) (by omega) (f := fun i => sm m fun i' => if i + i' = t then a i * b i' else 0) (fun j' _ => sm_nonneg fun i' _ => by
      split
      · exact Int.mul_nonneg (ha _) (hb _)
      · exact Int.le_refl 0)
  rw [cp_row] at h1
  omega

/-! a row along another one -/
def kc (n m : Nat) (P T : Nat → Int) : Int := if n = 0 ∨ m < n then 0 else er n m (gr n P) (gr m T)
def kl (n m : Nat) (P T : Nat → Int) : Nat := if n = 0 ∨ m < n then 0 else if er n m (gr n P) (gr m T) = 0 then m + 1 - n else 0
theorem kc_none {n m : Nat} {A B : Nat → Int} (h : n = 0 ∨ m < n) : kc n m A B = 0 := if_pos h
theorem kl_none {n m : Nat} {A B : Nat → Int} (h : n = 0 ∨ m < n) : kl n m A B = 0 := if_pos h
theorem kc_some {n m : Nat} {A B : Nat → Int} (h : ¬ (n = 0 ∨ m < n)) : kc n m A B = er n m (gr n A) (gr m B) := if_neg h
theorem kl_ok {n m : Nat} {A B : Nat → Int} (h : ¬ (n = 0 ∨ m < n)) (h2 : er n m (gr n A) (gr m B) = 0) : kl n m A B = m + 1 - n := by unfold kl; rw [if_neg h, if_pos h2]
theorem kl_no {n m : Nat} {A B : Nat → Int} (h : ¬ (n = 0 ∨ m < n)) (h2 : er n m (gr n A) (gr m B) ≠ 0) : kl n m A B = 0 := by unfold kl; rw [if_neg h, if_neg h2]
theorem kl_le (n m : Nat) (A B : Nat → Int) : kl n m A B ≤ 4097 := by
  by_cases h : n = 0 ∨ m < n
  · rw [kl_none h]; omega
  · by_cases h2 : er n m (gr n A) (gr m B) = 0
    · rw [kl_ok h h2]; have := (er_zero h2).1; omega
    · rw [kl_no h h2]; omega
/-- A row's products along another one, turned round: as the program adds. -/
theorem turn_cv (n m : Nat) (P T : Nat → Int) (hn : 1 ≤ n) (i : Nat) (hi : i + n ≤ m) : cv n m (fun j => P (n - 1 - j)) T (n - 1 + i) = cr n P T i := by
  rw [cv_comm, show n - 1 + i = i + n - 1 by omega]
  exact cr_cv n m P T i hi

end Go.Proofs.YtlogdjhnhnfbkaaDoor.Res
