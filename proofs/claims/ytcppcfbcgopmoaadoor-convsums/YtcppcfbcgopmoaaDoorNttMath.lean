/- Plain mathematics of layer 2: sums, transforms modulo a prime, halves, the way back, products that go round. No condition; nothing of the program. -/
import Derived.Test.YtcppcfbcgopmoaaDoorResMath
namespace Go.Proofs.YtcppcfbcgopmoaaDoor.Res

/-- f 0 + .. + f (n - 1). -/
def sm : Nat → (Nat → Int) → Int
  | 0, _ => 0
  | n + 1, f => sm n f + f n
theorem sm_congr {n : Nat} {f g : Nat → Int} (h : ∀ i, i < n → f i = g i) : sm n f = sm n g := by
  induction n with
  | zero => rfl
  | succ n ih => rw [sm, sm, ih (fun i hi => h i (by omega)), h n (by omega)]
theorem sm_add (n : Nat) (f g : Nat → Int) : sm n (fun i => f i + g i) = sm n f + sm n g := by
  induction n with
  | zero => rfl
  | succ n ih => simp only [sm, ih]; omega
theorem sm_mul (n : Nat) (c : Int) (f : Nat → Int) : sm n (fun i => c * f i) = c * sm n f := by
  induction n with
  | zero => simp [sm]
  | succ n ih => simp only [sm, ih]; rw [Int.mul_add]
theorem sm_mul_r (n : Nat) (c : Int) (f : Nat → Int) : sm n (fun i => f i * c) = sm n f * c := by
  rw [Int.mul_comm, ← sm_mul]; exact sm_congr fun i _ => Int.mul_comm _ _
theorem sm_zero (n : Nat) : sm n (fun _ => 0) = 0 := by
  induction n with
  | zero => rfl
  | succ n ih => rw [sm, ih]; rfl
theorem sm_one (n : Nat) : sm n (fun _ => 1) = n := by
  induction n with
  | zero => rfl
  | succ n ih => rw [sm, ih]; omega
theorem sm_two (h : Nat) (f : Nat → Int) : sm (2 * h) f = sm h (fun i => f (2 * i)) + sm h (fun i => f (2 * i + 1)) := by
  induction h with
  | zero => rfl
  | succ h ih => rw [show 2 * (h + 1) = 2 * h + 1 + 1 by omega, sm, sm, ih, sm, sm]; omega
theorem sm_app (m n : Nat) (f : Nat → Int) : sm (m + n) f = sm m f + sm n (fun i => f (m + i)) := by
  induction n with
  | zero => simp [sm]
  | succ n ih => rw [← Nat.add_assoc, sm, ih, sm]; omega
theorem sm_swap (m n : Nat) (f : Nat → Nat → Int) : sm m (fun i => sm n (fun j => f i j)) = sm n (fun j => sm m (fun i => f i j)) := by
  induction m with
  | zero => simp only [sm]; exact (sm_zero n).symm
  | succ m ih => simp only [sm, ih]; exact (sm_add n _ _).symm
/-- One term alone. -/
theorem sm_single {n j : Nat} (hj : j < n) {f : Nat → Int} (h : ∀ i, i < n → i ≠ j → f i = 0) : sm n f = f j := by
  induction n with
  | zero => omega
  | succ n ih =>
    rw [sm]
    by_cases e : j = n
    · subst e
      rw [sm_congr (g := fun _ => 0) (fun i hi => h i (by omega) (by omega)), sm_zero]; omega
    · rw [ih (by omega) (fun i hi hne => h i (by omega) hne), h n (by omega) (fun e2 => e e2.symm)]; omega

/-- The same modulo the prime. -/
def Eqm (k a b : Int) : Prop := md k a = md k b
theorem Eqm.rfl' {k a : Int} : Eqm k a a := rfl
theorem Eqm.of {k a b : Int} (h : a = b) : Eqm k a b := by subst h; rfl
theorem Eqm.symm {k a b : Int} (h : Eqm k a b) : Eqm k b a := Eq.symm h
theorem Eqm.trans {k a b c : Int} (h : Eqm k a b) (g : Eqm k b c) : Eqm k a c := Eq.trans h g
theorem Eqm.add {k a b c d : Int} (h : Eqm k a b) (g : Eqm k c d) : Eqm k (a + c) (b + d) := by
  unfold Eqm at *; rw [← md_add, h, g, md_add]
theorem Eqm.mul {k a b c d : Int} (h : Eqm k a b) (g : Eqm k c d) : Eqm k (a * c) (b * d) := by
  unfold Eqm at *; rw [← md_mul, h, g, md_mul]
theorem Eqm.sub {k a b c d : Int} (h : Eqm k a b) (g : Eqm k c d) : Eqm k (a - c) (b - d) := by
  unfold Eqm at *; rw [← md_sub, h, g, md_sub]
theorem Eqm.pow {k a b : Int} (h : Eqm k a b) (n : Nat) : Eqm k (a ^ n) (b ^ n) := by
  unfold Eqm at *; rw [← md_pow, h, md_pow]
theorem Eqm.md {k a : Int} : Eqm k (md k a) a := md_md k a
theorem Eqm.sm {k : Int} {n : Nat} {f g : Nat → Int} (h : ∀ i, i < n → Eqm k (f i) (g i)) : Eqm k (sm n f) (sm n g) := by
  induction n with
  | zero => rfl
  | succ n ih => exact (ih (fun i hi => h i (by omega))).add (h n (by omega))
theorem Eqm.neg_one {k : Int} (hp : pr k ≠ 0) : Eqm k (pr k - 1) (-1) := by
  unfold Eqm
  rw [md_some hp, md_some hp, show pr k - 1 = -1 + pr k by omega, Int.add_emod_right]
theorem Eqm.pr_zero (k : Int) : Eqm k (pr k) 0 := by
  unfold Eqm
  by_cases hp : pr k = 0
  · rw [hp]
  · rw [md_some hp, md_some hp, Int.emod_self, Int.zero_emod]
theorem one_pow' (n : Nat) : (1 : Int) ^ n = 1 := Int.one_pow
theorem neg_one_even (i : Nat) : (-1 : Int) ^ (2 * i) = 1 := by rw [Int.pow_mul]; exact Int.one_pow
theorem neg_one_odd (i : Nat) : (-1 : Int) ^ (2 * i + 1) = -1 := by rw [Int.pow_succ, neg_one_even]; rfl

/-- The transform with x for the root. -/
def dft (k x : Int) (n : Nat) (G : Nat → Int) (j : Nat) : Int := md k (sm n fun i => G i * x ^ (i * j))
theorem dft_nonneg (k x : Int) (n : Nat) (G : Nat → Int) (j : Nat) : 0 ≤ dft k x n G j := md_nonneg _ _
theorem dft_le (k x : Int) (n : Nat) (G : Nat → Int) (j : Nat) : dft k x n G j ≤ 998244352 := md_le _ _
theorem dft_congr {k x y : Int} {n : Nat} {G H : Nat → Int} {j : Nat} (hx : Eqm k x y) (h : ∀ i, i < n → Eqm k (G i) (H i)) : dft k x n G j = dft k y n H j :=
  Eqm.sm fun i hi => (h i hi).mul (hx.pow _)
theorem dft_one (k x : Int) (G : Nat → Int) : dft k x 1 G 0 = md k (G 0) := by
  simp [dft, sm]
theorem pow_reorder (x : Int) (i j : Nat) : (x * x) ^ (i * j) = x ^ (2 * i * j) := by rw [sq_pow, Nat.mul_assoc]
/-- The first half of a transform out of the halves'. -/
theorem bfly_low (k x : Int) (h : Nat) (G : Nat → Int) (j : Nat) :
    dft k x (2 * h) G j = md k (dft k (x * x) h (fun i => G (2 * i)) j + md k (dft k (x * x) h (fun i => G (2 * i + 1)) j * md k (x ^ j))) := by
  unfold dft
  rw [md_mul, md_add, sm_two, ← sm_mul_r]
  refine congrArg (md k) ?_
  congr 1
  · exact sm_congr fun i _ => by rw [pow_reorder]
  · refine sm_congr fun i _ => ?_
    rw [pow_reorder, Int.mul_assoc, ← Int.pow_add, show 2 * i * j + j = (2 * i + 1) * j by rw [Nat.add_mul, Nat.one_mul]]
theorem bfly_high (k x : Int) (hp : pr k ≠ 0) (h : Nat) (hx : md k (x ^ h) = pr k - 1) (G : Nat → Int) (j : Nat) :
    dft k x (2 * h) G (h + j) = md k (dft k (x * x) h (fun i => G (2 * i)) j + pr k - md k (dft k (x * x) h (fun i => G (2 * i + 1)) j * md k (x ^ j))) := by
  have hx1 : Eqm k (x ^ h) (-1) := by
    refine Eqm.trans (b := pr k - 1) ?_ (Eqm.neg_one hp)
    unfold Eqm
    rw [← hx, md_md]
  unfold dft
  rw [md_mul, show ∀ a b : Int, md k (md k a + pr k - md k b) = md k (a - b) from md_sub k, sm_two, ← sm_mul_r]
  refine Eqm.trans (b := sm h (fun i => G (2 * i) * (x * x) ^ (i * j)) + sm h (fun i => (-1) * (G (2 * i + 1) * (x * x) ^ (i * j) * x ^ j))) (Eqm.add ?_ ?_) ?_
  · refine Eqm.sm fun i _ => Eqm.rfl'.mul ?_
    rw [Nat.mul_add, Int.pow_add, Nat.mul_comm (2 * i) h, Int.pow_mul, pow_reorder]
    refine Eqm.trans ((hx1.pow _).mul Eqm.rfl') (Eqm.of ?_)
    rw [neg_one_even, Int.one_mul]
  · refine Eqm.sm fun i _ => ?_
    rw [Nat.mul_add, Int.pow_add, Nat.mul_comm (2 * i + 1) h, Int.pow_mul, pow_reorder]
    refine Eqm.trans (Eqm.rfl'.mul ((hx1.pow _).mul Eqm.rfl')) (Eqm.of ?_)
    rw [neg_one_odd, Nat.add_mul, Nat.one_mul, Int.pow_add]
    generalize x ^ (2 * i * j) = a
    generalize x ^ j = b
    generalize G (2 * i + 1) = c
    simp only [Int.neg_mul, Int.one_mul, Int.mul_neg, Int.mul_assoc]
  · rw [sm_mul]
    refine Eqm.of ?_
    show _ + -1 * _ = _ - _
    rw [Int.neg_mul, Int.one_mul]; rfl

/-! the way back -/
/-- The sum of the powers of a root: all of them, or none. -/
theorem ortho (k : Int) (hp : pr k ≠ 0) : ∀ (m : Nat) (x : Int), (m = 0 ∨ md k (x ^ (2 ^ (m - 1))) = pr k - 1) → ∀ D : Nat,
    Eqm k (sm (2 ^ m) fun j => x ^ (j * D)) (if D % 2 ^ m = 0 then 2 ^ m else 0)
  | 0, x, _, D => by
    have : D % 2 ^ 0 = 0 := by simp [Nat.mod_one]
    rw [if_pos this]
    refine Eqm.of ?_
    simp [sm]
  | m + 1, x, hx, D => by
    have hx' : md k (x ^ (2 ^ m)) = pr k - 1 := by rcases hx with h | h; (exact absurd h (by omega)); exact h
    have hx1 : Eqm k (x ^ (2 ^ m)) (-1) := by
      refine Eqm.trans (b := pr k - 1) ?_ (Eqm.neg_one hp)
      unfold Eqm
      rw [← hx', md_md]
    have hs : sm (2 ^ (m + 1)) (fun j => x ^ (j * D)) = sm (2 ^ m) (fun j => x ^ (j * D)) + sm (2 ^ m) (fun j => x ^ (2 ^ m * D) * x ^ (j * D)) := by
      rw [Nat.pow_succ, Nat.mul_two, sm_app]
      congr 1
      refine sm_congr fun j _ => ?_
      rw [Nat.add_mul, Int.pow_add]
    rw [hs, sm_mul]
    have hD : Eqm k (x ^ (2 ^ m * D)) ((-1) ^ D) := by rw [Int.pow_mul]; exact hx1.pow D
    by_cases ho : D % 2 = 1
    · have hd : (-1 : Int) ^ D = -1 := by have := neg_one_odd (D / 2); rwa [show 2 * (D / 2) + 1 = D by omega] at this
      have hne : ¬ D % 2 ^ (m + 1) = 0 := by
        intro e
        have : 2 ∣ D := Nat.dvd_trans ⟨2 ^ m, by rw [Nat.pow_succ, Nat.mul_comm]⟩ (Nat.dvd_of_mod_eq_zero e)
        omega
      rw [if_neg hne]
      rw [hd] at hD
      refine Eqm.trans (Eqm.add Eqm.rfl' (hD.mul Eqm.rfl')) (Eqm.of ?_)
      omega
    · obtain ⟨E, rfl⟩ : ∃ E, D = 2 * E := ⟨D / 2, by omega⟩
      rw [neg_one_even] at hD
      have ih := ortho k hp m (x * x) (by
        cases m with
        | zero => exact Or.inl rfl
        | succ m =>
          right
          rw [sq_pow, show m + 1 - 1 = m by omega, show 2 * 2 ^ m = 2 ^ (m + 1) by rw [Nat.pow_succ, Nat.mul_comm]]
          exact hx') E
      have e1 : sm (2 ^ m) (fun j => x ^ (j * (2 * E))) = sm (2 ^ m) (fun j => (x * x) ^ (j * E)) := sm_congr fun j _ => by
        rw [sq_pow, Nat.mul_left_comm]
      rw [e1]
      refine Eqm.trans (Eqm.add Eqm.rfl' (hD.mul Eqm.rfl')) ?_
      rw [Int.one_mul]
      refine Eqm.trans (ih.add ih) (Eqm.of ?_)
      have hiff : 2 * E % 2 ^ (m + 1) = 0 ↔ E % 2 ^ m = 0 := by
        rw [Nat.pow_succ, Nat.mul_comm (2 ^ m) 2, Nat.mul_mod_mul_left]
        omega
      by_cases he : E % 2 ^ m = 0
      · rw [if_pos he, if_pos (hiff.2 he), Int.pow_succ]; omega
      · rw [if_neg he, if_neg (fun h => he (hiff.1 h))]; omega
/-- A root of 2^m: its 2^m-th power is 1. -/
theorem root_full {k x : Int} (hp : pr k ≠ 0) {m : Nat} (hx0 : m = 0 → md k x = 1) (hx : m = 0 ∨ md k (x ^ (2 ^ (m - 1))) = pr k - 1) : Eqm k (x ^ (2 ^ m)) 1 := by
  rcases hx with h | h
  · subst h
    unfold Eqm
    rw [show (2 : Nat) ^ 0 = 1 by decide, Int.pow_succ, Int.pow_zero, Int.one_mul, hx0 rfl, md_one hp]
  · cases m with
    | zero =>
      unfold Eqm
      rw [show (2 : Nat) ^ 0 = 1 by decide, Int.pow_succ, Int.pow_zero, Int.one_mul, hx0 rfl, md_one hp]
    | succ m =>
      have h' : md k (x ^ (2 ^ m)) = pr k - 1 := h
      have hx1 : Eqm k (x ^ (2 ^ m)) (-1) := by
        refine Eqm.trans (b := pr k - 1) ?_ (Eqm.neg_one hp)
        unfold Eqm
        rw [← h', md_md]
      rw [Nat.pow_succ, Int.pow_mul]
      exact hx1.pow 2
/-- There and back. -/
theorem dft_back (k x y c : Int) (hp : pr k ≠ 0) (m : Nat) (hx0 : m = 0 → md k x = 1) (hx : m = 0 ∨ md k (x ^ (2 ^ (m - 1))) = pr k - 1) (hy : Eqm k (x * y) 1) (hc : Eqm k ((2 : Int) ^ m * c) 1) (G : Nat → Int) (t : Nat) (ht : t < 2 ^ m) :
    md k (dft k y (2 ^ m) (dft k x (2 ^ m) G) t * c) = md k (G t) := by
  have hfull := root_full hp hx0 hx
  have hn : 1 ≤ 2 ^ m := Nat.one_le_two_pow
  -- y is x to the 2^m - 1
  have hy' : Eqm k y (x ^ (2 ^ m - 1)) := by
    refine Eqm.trans (b := x ^ (2 ^ m) * y) ?_ ?_
    · refine Eqm.trans (Eqm.of (Int.one_mul y).symm) (hfull.symm.mul Eqm.rfl')
    · rw [show (2 : Nat) ^ m = (2 ^ m - 1) + 1 by omega, Int.pow_succ, Int.mul_assoc]
      refine Eqm.trans (Eqm.rfl'.mul hy) (Eqm.of ?_)
      rw [Int.mul_one]; rfl
  unfold dft
  rw [md_mul_l]
  show Eqm k _ _
  have step : Eqm k (sm (2 ^ m) fun i => md k (sm (2 ^ m) fun i_1 => G i_1 * x ^ (i_1 * i)) * y ^ (i * t))
      (sm (2 ^ m) fun i => G i * (if (i + (2 ^ m - 1) * t) % 2 ^ m = 0 then 2 ^ m else 0)) := by
    refine Eqm.trans (b := sm (2 ^ m) fun j => sm (2 ^ m) fun i => G i * x ^ (j * (i + (2 ^ m - 1) * t))) ?_ ?_
    · refine Eqm.sm fun j _ => ?_
      refine Eqm.trans (Eqm.md.mul (hy'.pow _)) (Eqm.of ?_)
      rw [← sm_mul_r]
      refine sm_congr fun i _ => ?_
      rw [Int.mul_assoc, ← Int.pow_mul, ← Int.pow_add]
      congr 2
      rw [Nat.mul_add, Nat.mul_comm i j, Nat.mul_left_comm]
    · rw [sm_swap]
      refine Eqm.sm fun i _ => ?_
      rw [sm_mul]
      exact Eqm.rfl'.mul (ortho k hp m x hx _)
  refine Eqm.trans (step.mul Eqm.rfl') ?_
  rw [sm_single ht (fun i hi hne => by
    rw [if_neg, Int.mul_zero]
    intro e
    have h1 : (i + (2 ^ m - 1) * t + t) % 2 ^ m = t % 2 ^ m := by rw [Nat.add_mod, e, Nat.zero_add, Nat.mod_mod]
    have h2 : i + (2 ^ m - 1) * t + t = i + 2 ^ m * t := by
      rw [Nat.add_assoc, Nat.sub_mul, Nat.one_mul, Nat.sub_add_cancel]
      exact Nat.le_mul_of_pos_left t (by omega)
    rw [h2, Nat.add_mul_mod_self_left, Nat.mod_eq_of_lt hi, Nat.mod_eq_of_lt ht] at h1
    exact hne h1)]
  have h3 : (t + (2 ^ m - 1) * t) % 2 ^ m = 0 := by
    have : t + (2 ^ m - 1) * t = 2 ^ m * t := by
      rw [Nat.sub_mul, Nat.one_mul, Nat.add_comm, Nat.sub_add_cancel]
      exact Nat.le_mul_of_pos_left t (by omega)
    rw [this, Nat.mul_mod_right]
  rw [if_pos h3, Int.mul_assoc]
  exact (Eqm.rfl'.mul hc).trans (Eqm.of (Int.mul_one _))

/-! products that go round -/
/-- The sum of all a i * b j, of which i and j are t together, or t and n: as the document reckons it, row by row. -/
def cyc (k : Int) (n : Nat) (a b : Nat → Int) (t : Nat) : Int := md k (sm n fun i => sm n fun j => if (i + j) % n = t then a i * b j else 0)
theorem cyc_dft (k x : Int) (n : Nat) (hn : 0 < n) (hx : Eqm k (x ^ n) 1) (a b : Nat → Int) (t : Nat) : dft k x n (cyc k n a b) t = md k (dft k x n a t * dft k x n b t) := by
  unfold dft
  rw [md_mul]
  show Eqm k _ _
  refine Eqm.trans (b := sm n fun s => sm n fun i => sm n fun j => (if (i + j) % n = s then a i * b j else 0) * x ^ (s * t)) ?_ ?_
  · refine Eqm.sm fun s _ => ?_
    unfold cyc
    refine Eqm.trans (Eqm.md.mul Eqm.rfl') (Eqm.of ?_)
    rw [← sm_mul_r]
    exact sm_congr fun i _ => by rw [← sm_mul_r]
  · rw [sm_swap]
    refine Eqm.trans (b := sm n fun i => sm n fun j => a i * x ^ (i * t) * (b j * x ^ (j * t))) ?_ ?_
    · refine Eqm.sm fun i _ => ?_
      rw [sm_swap]
      refine Eqm.sm fun j _ => ?_
      rw [sm_single (j := (i + j) % n) (Nat.mod_lt _ hn) (fun s _ hne => by rw [if_neg (fun e => hne e.symm), Int.zero_mul]), if_pos rfl]
      have h1 : Eqm k (x ^ ((i + j) % n * t)) (x ^ ((i + j) * t)) := by
        have e : (i + j) * t = (i + j) % n * t + n * ((i + j) / n * t) := by
          rw [← Nat.mul_assoc, ← Nat.add_mul, Nat.mod_add_div]
        rw [e, Int.pow_add, show x ^ (n * ((i + j) / n * t)) = (x ^ n) ^ ((i + j) / n * t) from Int.pow_mul]
        refine Eqm.trans (Eqm.of (Int.mul_one _).symm) (Eqm.rfl'.mul ?_)
        refine Eqm.trans (Eqm.of (Int.one_pow (n := (i + j) / n * t)).symm) (hx.symm.pow _)
      refine Eqm.trans (Eqm.rfl'.mul h1) (Eqm.of ?_)
      rw [Nat.add_mul, Int.pow_add]
      ac_rfl
    · refine Eqm.of ?_
      rw [← sm_mul_r]
      exact sm_congr fun i _ => sm_mul _ _ _
/-- The transform is a sum's. -/
theorem dft_lin (k x c : Int) (n : Nat) (G H : Nat → Int) (j : Nat) : dft k x n (fun i => md k (G i + md k (H i * c))) j = md k (dft k x n G j + md k (dft k x n H j * c)) := by
  unfold dft
  rw [md_mul_l, md_add]
  show Eqm k _ _
  rw [← sm_mul_r, ← sm_add]
  refine Eqm.sm fun i _ => ?_
  refine Eqm.trans ((Eqm.md.trans (Eqm.rfl'.add Eqm.md)).mul Eqm.rfl') (Eqm.of ?_)
  rw [Int.add_mul]
  congr 1
  ac_rfl
/-- Moved by one place. -/
def mov (n : Nat) (G : Nat → Int) : Nat → Int := fun i => if i = 0 then G (n - 1) else G (i - 1)
theorem dft_mov (k x : Int) (n : Nat) (hn : 0 < n) (hx : Eqm k (x ^ n) 1) (G : Nat → Int) (j : Nat) : dft k x n (mov n G) j = md k (dft k x n G j * md k (x ^ j)) := by
  obtain ⟨m, rfl⟩ : ∃ m, n = m + 1 := ⟨n - 1, by omega⟩
  unfold dft
  rw [md_mul]
  show Eqm k _ _
  have e1 : sm (m + 1) (fun i => mov (m + 1) G i * x ^ (i * j)) = G m * 1 + sm m (fun i => G i * x ^ ((i + 1) * j)) := by
    rw [Nat.add_comm m 1, sm_app]
    simp only [sm, mov]
    rw [if_pos True.intro, Nat.zero_mul, Int.pow_zero, Int.zero_add, show 1 + m - 1 = m by omega]
    congr 1
    refine sm_congr fun i _ => ?_
    rw [if_neg (by omega), show 1 + i - 1 = i by omega, Nat.add_comm 1 i]
  rw [e1, sm, Int.add_mul]
  refine Eqm.trans (b := G m * x ^ (m * j) * x ^ j + sm m (fun i => G i * x ^ (i * j)) * x ^ j) (Eqm.add ?_ (Eqm.of ?_)) (Eqm.of (Int.add_comm _ _))
  · rw [Int.mul_assoc, ← Int.pow_add, show m * j + j = (m + 1) * j by rw [Nat.add_mul, Nat.one_mul], Int.pow_mul]
    exact Eqm.rfl'.mul ((Eqm.of (Int.one_pow (n := j)).symm).trans (hx.symm.pow j))
  · rw [← sm_mul_r]
    refine sm_congr fun i _ => ?_
    rw [Int.mul_assoc, ← Int.pow_add, Nat.add_mul, Nat.one_mul]
end Go.Proofs.YtcppcfbcgopmoaaDoor.Res
