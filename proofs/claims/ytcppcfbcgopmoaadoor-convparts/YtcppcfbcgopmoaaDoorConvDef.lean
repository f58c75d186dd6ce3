/- Plain: the least power of 2; the greatest of a row; which error there is; what the document's sums come to. No condition; nothing of the program. -/
import Derived.Test.YtcppcfbcgopmoaaDoorConvMath
namespace Go.Proofs.YtcppcfbcgopmoaaDoor.Res

/-- The greatest of n numbers; 0 of none. -/
def gr : Nat → (Nat → Int) → Int
  | 0, _ => 0
  | n + 1, L => if gr n L < L n then L n else gr n L
theorem gr_up {n : Nat} {L : Nat → Int} (h : gr n L < L n) : gr (n + 1) L = L n := if_pos h
theorem gr_stay {n : Nat} {L : Nat → Int} (h : ¬ gr n L < L n) : gr (n + 1) L = gr n L := if_neg h
theorem gr_mono (n : Nat) (L : Nat → Int) : gr n L ≤ gr (n + 1) L := by
  by_cases h : gr n L < L n
  · rw [gr_up h]; omega
  · rw [gr_stay h]; omega
theorem gr_nonneg : ∀ (n : Nat) (L : Nat → Int), 0 ≤ gr n L
  | 0, _ => Int.le_refl 0
  | n + 1, L => Int.le_trans (gr_nonneg n L) (gr_mono n L)
theorem gr_le : ∀ (n : Nat) (L : Nat → Int) (t : Nat), t < n → L t ≤ gr n L
  | 0, _, _, h => by omega
  | n + 1, L, t, h => by
    by_cases e : t = n
    · subst e
      by_cases h2 : gr t L < L t
      · rw [gr_up h2]; omega
      · rw [gr_stay h2]; omega
    · exact Int.le_trans (gr_le n L t (by omega)) (gr_mono n L)
theorem gr_hi {L : Nat → Int} {M : Int} (h0 : 0 ≤ M) (h : ∀ t, L t ≤ M) : ∀ n, gr n L ≤ M
  | 0 => h0
  | n + 1 => by
    by_cases h2 : gr n L < L n
    · rw [gr_up h2]; exact h n
    · rw [gr_stay h2]; exact gr_hi h0 h n
theorem gr_congr {L M : Nat → Int} : ∀ (n : Nat), (∀ t, t < n → L t = M t) → gr n L = gr n M
  | 0, _ => rfl
  | n + 1, h => by
    show (if gr n L < L n then L n else gr n L) = (if gr n M < M n then M n else gr n M)
    rw [gr_congr n (fun t ht => h t (by omega)), h n (by omega)]
/-- The greatest one hangs not on the order. -/
theorem gr_rev (n : Nat) (L : Nat → Int) (h0 : ∀ t, 0 ≤ L t) : gr n (fun j => L (n - 1 - j)) = gr n L := by
  have up : ∀ (n : Nat) (L M : Nat → Int), (∀ t, t < n → ∃ s, s < n ∧ L t ≤ M s) → (∀ t, 0 ≤ M t) → gr n L ≤ gr n M := fun n L M h hM => by
    have : ∀ k, k ≤ n → gr k L ≤ gr n M := by
      intro k
      induction k with
      | zero => intro _; exact gr_nonneg n M
      | succ k ih =>
        intro hk
        by_cases h2 : gr k L < L k
        · rw [gr_up h2]
          obtain ⟨s, hs, hle⟩ := h k (by omega)
          exact Int.le_trans hle (gr_le n M s hs)
        · rw [gr_stay h2]; exact ih (by omega)
    exact this n (Nat.le_refl n)
  apply Int.le_antisymm
  · exact up n _ _ (fun t ht => ⟨n - 1 - t, by omega, Int.le_refl _⟩) h0
  · refine up n _ _ (fun t ht => ⟨n - 1 - t, by omega, ?_⟩) (fun t => h0 _)
    show L t ≤ L (n - 1 - (n - 1 - t))
    rw [show n - 1 - (n - 1 - t) = t by omega]
    exact Int.le_refl _

theorem lg_of (n : Nat) (h2 : n ≤ 4096) : ∃ m : Nat, m ≤ 12 ∧ n ≤ 2 ^ m ∧ ∀ i, i < m → 2 ^ i < n := by
  have key : ∀ M : Nat, n ≤ 2 ^ M → ∃ m : Nat, m ≤ M ∧ n ≤ 2 ^ m ∧ ∀ i, i < m → 2 ^ i < n := by
    intro M
    induction M with
    | zero => intro h; exact ⟨0, Nat.le_refl _, h, fun i hi => by omega⟩
    | succ M ih =>
      intro h
      by_cases hM : n ≤ 2 ^ M
      · obtain ⟨m, hm, ha, hb⟩ := ih hM
        exact ⟨m, by omega, ha, hb⟩
      · exact ⟨M + 1, Nat.le_refl _, h, fun i hi => Nat.lt_of_le_of_lt (Nat.pow_le_pow_right (by omega) (by omega)) (Nat.lt_of_not_le hM)⟩
  exact key 12 (by omega)

/-- Which error two rows have that are not empty; X and Y are the greatest of them. -/
def er (n m : Nat) (X Y : Int) : Int := if 4097 < n + m then 41 else if 18446744073709551616 ≤ X * Y * ((min n m : Nat) : Int) then 40 else 0
theorem er_comm (n m : Nat) (X Y : Int) : er n m X Y = er m n Y X := by
  unfold er
  rw [Nat.add_comm n m, Int.mul_comm X Y, Nat.min_comm n m]
theorem er_long {n m : Nat} {X Y : Int} (h : 4097 < n + m) : er n m X Y = 41 := if_pos h
theorem er_big {n m : Nat} {X Y : Int} (h : ¬ 4097 < n + m) (h2 : 18446744073709551616 ≤ X * Y * ((min n m : Nat) : Int)) : er n m X Y = 40 := by unfold er; rw [if_neg h, if_pos h2]
theorem er_ok {n m : Nat} {X Y : Int} (h : ¬ 4097 < n + m) (h2 : ¬ 18446744073709551616 ≤ X * Y * ((min n m : Nat) : Int)) : er n m X Y = 0 := by unfold er; rw [if_neg h, if_neg h2]
theorem er_zero {n m : Nat} {X Y : Int} (h : er n m X Y = 0) : n + m ≤ 4097 ∧ X * Y * ((min n m : Nat) : Int) ≤ 18446744073709551615 := by
  by_cases h1 : 4097 < n + m
  · rw [er_long h1] at h; omega
  · by_cases h2 : 18446744073709551616 ≤ X * Y * ((min n m : Nat) : Int)
    · rw [er_big h1 h2] at h; omega
    · omega

/-- Product of the two greatest ones, in halves: as the program asks. -/
theorem halves_big {P k : Int} (hP : 0 ≤ P) (hk : 1 ≤ k) : (P / 18446744073709551616 = 0 ∧ P % 18446744073709551616 * k / 18446744073709551616 = 0) ↔ ¬ 18446744073709551616 ≤ P * k := by
  have h1 : P * 1 ≤ P * k := Int.mul_le_mul_of_nonneg_left hk hP
  have h0 : 0 ≤ P * k := Int.mul_nonneg hP (by omega)
  by_cases h : 18446744073709551616 ≤ P
  · constructor
    · rintro ⟨ha, _⟩; omega
    · intro hn; omega
  · have e : P % 18446744073709551616 = P := by omega
    rw [e]
    generalize P * k = Q at *
    omega
/-- By quotients: as the document asks. -/
theorem quot_big {x y : Int} (hx : 0 < x) : 18446744073709551615 / x < y ↔ 18446744073709551616 ≤ x * y := by
  rw [Int.ediv_lt_iff_lt_mul hx, Int.mul_comm y x]
  omega

/-- Which error there is; how many numbers are told. -/
def ec (n m : Nat) (A B : Nat → Int) : Int := if n = 0 ∨ m = 0 then 0 else er n m (gr n A) (gr m B)
def ln (n m : Nat) (A B : Nat → Int) : Nat := if n = 0 ∨ m = 0 then 0 else if er n m (gr n A) (gr m B) = 0 then n + m - 1 else 0
theorem ec_none {n m : Nat} {A B : Nat → Int} (h : n = 0 ∨ m = 0) : ec n m A B = 0 := if_pos h
theorem ln_none {n m : Nat} {A B : Nat → Int} (h : n = 0 ∨ m = 0) : ln n m A B = 0 := if_pos h
theorem ec_some {n m : Nat} {A B : Nat → Int} (h : ¬ (n = 0 ∨ m = 0)) : ec n m A B = er n m (gr n A) (gr m B) := if_neg h
theorem ln_ok {n m : Nat} {A B : Nat → Int} (h : ¬ (n = 0 ∨ m = 0)) (h2 : er n m (gr n A) (gr m B) = 0) : ln n m A B = n + m - 1 := by unfold ln; rw [if_neg h, if_pos h2]
theorem ln_no {n m : Nat} {A B : Nat → Int} (h : ¬ (n = 0 ∨ m = 0)) (h2 : er n m (gr n A) (gr m B) ≠ 0) : ln n m A B = 0 := by unfold ln; rw [if_neg h, if_neg h2]
theorem ec_comm (n m : Nat) (A B : Nat → Int) : ec n m A B = ec m n B A := by
  unfold ec
  rw [er_comm]
  by_cases h : n = 0 ∨ m = 0
  · rw [if_pos h, if_pos (Or.comm.1 h)]
  · rw [if_neg h, if_neg (fun e => h (Or.comm.1 e))]
theorem ln_comm (n m : Nat) (A B : Nat → Int) : ln n m A B = ln m n B A := by
  unfold ln
  rw [er_comm, Nat.add_comm n m]
  by_cases h : n = 0 ∨ m = 0
  · rw [if_pos h, if_pos (Or.comm.1 h)]
  · rw [if_neg h, if_neg (fun e => h (Or.comm.1 e))]
theorem ln_le (n m : Nat) (A B : Nat → Int) : ln n m A B ≤ 4096 := by
  by_cases h : n = 0 ∨ m = 0
  · rw [ln_none h]; omega
  · by_cases h2 : er n m (gr n A) (gr m B) = 0
    · rw [ln_ok h h2]; have := (er_zero h2).1; omega
    · rw [ln_no h h2]; omega
/-- No sum reaches 2^64. -/
theorem cv_fits {n m : Nat} {A B : Nat → Int} (hA : ∀ t, 0 ≤ A t) (hB : ∀ t, 0 ≤ B t) (h : er n m (gr n A) (gr m B) = 0) (t : Nat) : cv n m A B t ≤ 18446744073709551615 := by
  have hz := (er_zero h).2
  by_cases hnm : n ≤ m
  · have := cv_le (n := n) (m := m) (a := A) (b := B) (X := gr n A) (Y := gr m B) hB (gr_nonneg _ _) (gr_nonneg _ _) (gr_le n A) (gr_le m B) t
    rw [Nat.min_eq_left hnm, Int.mul_comm] at hz
    omega
  · have := cv_le' (n := n) (m := m) (a := A) (b := B) (X := gr n A) (Y := gr m B) hA (gr_nonneg _ _) (gr_nonneg _ _) (gr_le n A) (gr_le m B) t
    rw [Nat.min_eq_right (by omega), Int.mul_comm] at hz
    omega

/-! a product, row by row: as the program adds -/
def cp (m : Nat) (a b : Nat → Int) (j i t : Nat) : Int :=
  sm j (fun j' => sm m fun i' => if j' + i' = t then a j' * b i' else 0) + sm i (fun i' => if j + i' = t then a j * b i' else 0)
theorem cp_at (m : Nat) (a b : Nat → Int) (j i : Nat) : cp m a b j i (j + i) + a j * b i = cp m a b j (i + 1) (j + i) := by
  unfold cp
  rw [show sm (i + 1) (fun i' => if j + i' = j + i then a j * b i' else 0) = sm i (fun i' => if j + i' = j + i then a j * b i' else 0) + (if j + i = j + i then a j * b i else 0) from rfl, if_pos rfl, Int.add_assoc]
theorem cp_off (m : Nat) (a b : Nat → Int) (j i t : Nat) (h : t ≠ j + i) : cp m a b j (i + 1) t = cp m a b j i t := by
  unfold cp
  rw [show sm (i + 1) (fun i' => if j + i' = t then a j * b i' else 0) = sm i (fun i' => if j + i' = t then a j * b i' else 0) + (if j + i = t then a j * b i else 0) from rfl, if_neg (fun e => h e.symm), Int.add_zero]
theorem cp_row (m : Nat) (a b : Nat → Int) (j t : Nat) : cp m a b j m t = cp m a b (j + 1) 0 t := by
  unfold cp
  rw [show sm (j + 1) (fun j' => sm m fun i' => if j' + i' = t then a j' * b i' else 0) = sm j (fun j' => sm m fun i' => if j' + i' = t then a j' * b i' else 0) + (sm m fun i' => if j + i' = t then a j * b i' else 0) from rfl]
  rw [show sm 0 (fun i' => if j + 1 + i' = t then a (j + 1) * b i' else 0) = 0 from rfl, Int.add_zero]
theorem cp_zero (m : Nat) (a b : Nat → Int) (t : Nat) : cp m a b 0 0 t = 0 := rfl
theorem cp_fin (n m : Nat) (a b : Nat → Int) (t : Nat) : cp m a b n 0 t = cv n m a b t := by
  unfold cp cv
  rw [show sm 0 (fun i' => if n + i' = t then a n * b i' else 0) = 0 from rfl, Int.add_zero]
theorem cp_nonneg {m : Nat} {a b : Nat → Int} (ha : ∀ t, 0 ≤ a t) (hb : ∀ t, 0 ≤ b t) (j i t : Nat) : 0 ≤ cp m a b j i t := by
  unfold cp
  have h1 := sm_nonneg (n := j) (f := fun j' => sm m fun i' => if j' + i' = t then a j' * b i' else 0) (fun j' _ => sm_nonneg fun i' _ => by
    split
    · exact Int.mul_nonneg (ha _) (hb _)
    · exact Int.le_refl 0)
  have h2 := sm_nonneg (n := i) (f := fun i' => if j + i' = t then a j * b i' else 0) (fun i' _ => by
    split
    · exact Int.mul_nonneg (ha _) (hb _)
    · exact Int.le_refl 0)
  omega
theorem cp_le {n m : Nat} {a b : Nat → Int} (ha : ∀ t, 0 ≤ a t) (hb : ∀ t, 0 ≤ b t) (j i t : Nat) (hj : j < n) (hi : i ≤ m) : cp m a b j i t ≤ cv n m a b t := by
  have h1 : cp m a b j i t ≤ cp m a b j m t := by
    unfold cp
    have := sm_mono (i := i) (n := m) hi (f := fun i' => if j + i' = t then a j * b i' else 0) (fun i' _ => by
      split
      · exact Int.mul_nonneg (ha _) (hb _)
      · exact Int.le_refl 0)
    omega
  have h2 : cp m a b (j + 1) 0 t ≤ cv n m a b t := by
    rw [cp_fin (j + 1)]
    exact sm_mono (i := j + 1) (n := n) (by omega) (f := fun i => sm m fun i' => if i + i' = t then a i * b i' else 0) (fun j' _ => sm_nonneg fun i' _ => by
      split
      · exact Int.mul_nonneg (ha _) (hb _)
      · exact Int.le_refl 0)
  rw [cp_row] at h1
  omega

/-! a row along another one -/
def kc (n m : Nat) (P T : Nat → Int) : Int := if n = 0 ∨ m < n then 0 else er n m (gr n P) (gr m T)
def kl (n m : Nat) (P T : Nat → Int) : Nat := if n = 0 ∨ m < n then 0 else if er n m (gr n P) (gr m T) = 0 then m + 1 - n else 0
theorem kc_none {n m : Nat} {A B : Nat → Int} (h : n = 0 ∨ m < n) : kc n m A B = 0 := if_pos h
theorem kl_none {n m : Nat} {A B : Nat → Int} (h : n = 0 ∨ m < n) : kl n m A B = 0 := if_pos h
theorem kc_some {n m : Nat} {A B : Nat → Int} (h : ¬ (n = 0 ∨ m < n)) : kc n m A B = er n m (gr n A) (gr m B) := if_neg h
theorem kl_ok {n m : Nat} {A B : Nat → Int} (h : ¬ (n = 0 ∨ m < n)) (h2 : er n m (gr n A) (gr m B) = 0) : kl n m A B = m + 1 - n := by unfold kl; rw [if_neg h, if_pos h2]
theorem kl_no {n m : Nat} {A B : Nat → Int} (h : ¬ (n = 0 ∨ m < n)) (h2 : er n m (gr n A) (gr m B) ≠ 0) : kl n m A B = 0 := by unfold kl; rw [if_neg h, if_neg h2]
theorem kl_le (n m : Nat) (A B : Nat → Int) : kl n m A B ≤ 4097 := by
  by_cases h : n = 0 ∨ m < n
  · rw [kl_none h]; omega
  · by_cases h2 : er n m (gr n A) (gr m B) = 0
    · rw [kl_ok h h2]; have := (er_zero h2).1; omega
    · rw [kl_no h h2]; omega
/-- A row's products along another one, turned round: as the program adds. -/
theorem turn_cv (n m : Nat) (P T : Nat → Int) (hn : 1 ≤ n) (i : Nat) (hi : i + n ≤ m) : cv n m (fun j => P (n - 1 - j)) T (n - 1 + i) = cr n P T i := by
  rw [cv_comm, show n - 1 + i = i + n - 1 by omega]
  exact cr_cv n m P T i hi
end Go.Proofs.YtcppcfbcgopmoaaDoor.Res
