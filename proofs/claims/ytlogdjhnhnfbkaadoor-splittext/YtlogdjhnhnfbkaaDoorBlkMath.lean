/- Plain: a row slid along another one in blocks: which sizes there are, what it costs, what each block tells. No condition; nothing of the program. -/
import Derived.Test.YtlogdjhnhnfbkaaDoorMathA
namespace Go.Proofs.YtlogdjhnhnfbkaaDoor.Res

/-- May blocks be of a size, where m numbers are slid? -/
def szb (m s : Int) : Bool := (List.range 13).any (fun l => decide (s = 2 ^ l)) && decide (m ≤ s)
theorem szb_yes {m s : Int} (h : szb m s = true) : ∃ l : Nat, l ≤ 12 ∧ s = 2 ^ l ∧ m ≤ s := by
  unfold szb at h
  rw [Bool.and_eq_true, List.any_eq_true] at h
  obtain ⟨⟨l, hl, he⟩, h2⟩ := h
  exact ⟨l, by have := List.mem_range.1 hl; omega, of_decide_eq_true he, of_decide_eq_true h2⟩
theorem szb_of {m s : Int} {l : Nat} (hl : l ≤ 12) (hs : s = 2 ^ l) (hm : m ≤ s) : szb m s = true := by
  unfold szb
  rw [Bool.and_eq_true, List.any_eq_true]
  exact ⟨⟨l, List.mem_range.2 (by omega), decide_eq_true hs⟩, decide_eq_true hm⟩
theorem szb_no {m s : Int} (h : szb m s = false) : (∀ l : Nat, l ≤ 12 → s ≠ 2 ^ l) ∨ ((∃ l : Nat, l ≤ 12 ∧ s = 2 ^ l) ∧ s < m) := by
  by_cases hp : ∃ l : Nat, l ≤ 12 ∧ s = 2 ^ l
  · refine .inr ⟨hp, ?_⟩
    obtain ⟨l, hl, hs⟩ := hp
    apply Classical.byContradiction
    intro hn
    rw [szb_of hl hs (by omega)] at h
    cases h
  · exact .inl fun l hl hs => hp ⟨l, hl, hs⟩
theorem pow_bd (l : Nat) (hl : l ≤ 12) : 1 ≤ (2 : Int) ^ l ∧ (2 : Int) ^ l ≤ 4096 := by
  have h1 : (2 : Nat) ^ l ≤ 2 ^ 12 := Nat.pow_le_pow_right (by omega) hl
  have h2 : 1 ≤ (2 : Nat) ^ l := Nat.one_le_two_pow
  have e : ((2 ^ l : Nat) : Int) = (2 : Int) ^ l := by rw [Int.natCast_pow]; rfl
  omega

/-! how many transforms -/
def ct (m n s : Int) : Int := if (1 ≤ m ∧ m ≤ n) ∧ szb m s = true then 3 + 6 * ((min n 1099511627776 - m + 1 + (s - m + 1) - 1) / (s - m + 1)) else 0
theorem ct_no {m n s : Int} (h : ¬ ((1 ≤ m ∧ m ≤ n) ∧ szb m s = true)) : ct m n s = 0 := if_neg h
theorem ct_yes {m n s : Int} (h1 : 1 ≤ m) (h2 : m ≤ n) (h3 : szb m s = true) : ct m n s = 3 + 6 * ((min n 1099511627776 - m + 1 + (s - m + 1) - 1) / (s - m + 1)) := if_pos ⟨⟨h1, h2⟩, h3⟩
/-- Blocks, the last one as many as are left: as the program and as the document count. -/
theorem ceil_div {a b : Int} (hb : 1 ≤ b) : (a + b - 1) / b = a / b + (if a % b = 0 then 0 else 1) := by
  have e1 := Int.mul_ediv_add_emod a b
  have m0 := Int.emod_nonneg a (show b ≠ 0 by omega)
  have m1 := Int.emod_lt_of_pos a (show 0 < b by omega)
  have e2 : a + b - 1 = (a % b + b - 1) + b * (a / b) := by omega
  rw [e2, Int.add_mul_ediv_left _ _ (show b ≠ 0 by omega)]
  by_cases h : a % b = 0
  · rw [if_pos h, h]
    have : (0 + b - 1) / b = 0 := Int.ediv_eq_zero_of_lt (by omega) (by omega)
    omega
  · rw [if_neg h]
    have : (a % b + b - 1) / b = 1 := by
      have e3 : a % b + b - 1 = (a % b - 1) + b * 1 := by omega
      rw [e3, Int.add_mul_ediv_left _ _ (show b ≠ 0 by omega), Int.ediv_eq_zero_of_lt (by omega) (by omega)]
      rfl
    omega
theorem ct_ge (m n s : Int) : ct m n s = 0 ∨ (9 ≤ ct m n s ∧ ct m n s ≤ 3 + 6 * 1099511627776) := by
  by_cases h : (1 ≤ m ∧ m ≤ n) ∧ szb m s = true
  · refine .inr ?_
    rw [ct_yes h.1.1 h.1.2 h.2]
    obtain ⟨l, hl, hs, hms⟩ := szb_yes h.2
    have hb := pow_bd l hl
    rw [← hs] at hb
    have hm : min n 1099511627776 ≤ 1099511627776 := Int.min_le_right _ _
    have hm2 : m ≤ min n 1099511627776 := by omega
    generalize hN : min n 1099511627776 = N at *
    have h1 : 1 ≤ (N - m + 1 + (s - m + 1) - 1) / (s - m + 1) := (Int.le_ediv_iff_mul_le (by omega)).2 (by omega)
    have h2 : (N - m + 1 + (s - m + 1) - 1) / (s - m + 1) ≤ N - m + 1 := by
      have : (N - m + 1 + (s - m + 1) - 1) / (s - m + 1) < N - m + 1 + 1 := by
        rw [Int.ediv_lt_iff_lt_mul (by omega)]
        have hp : (N - m + 1) * 1 ≤ (N - m + 1) * (s - m + 1) := Int.mul_le_mul_of_nonneg_left (by omega) (by omega)
        rw [Int.add_mul]
        omega
      omega
    omega
  · exact .inl (ct_no h)
theorem ct_mono (m n s : Int) : ct m n s ≤ ct m (n + 1) s := by
  by_cases h : (1 ≤ m ∧ m ≤ n) ∧ szb m s = true
  · rw [ct_yes h.1.1 h.1.2 h.2, ct_yes h.1.1 (by omega) h.2]
    obtain ⟨l, hl, hs, hms⟩ := szb_yes h.2
    have := Int.ediv_le_ediv (a := min n 1099511627776 - m + 1 + (s - m + 1) - 1) (b := min (n + 1) 1099511627776 - m + 1 + (s - m + 1) - 1) (c := s - m + 1) (by omega) (by omega)
    omega
  · rw [ct_no h]
    rcases ct_ge m (n + 1) s with h | h <;> omega

/-! the best size -/
def cost (m n : Int) (k : Nat) : Int := ct m n (2 ^ k) * 2 ^ k * ((k : Int) + 1)
theorem cost_bd (m n : Int) (k : Nat) (hk : k ≤ 12) : (ct m n (2 ^ k) = 0 ∧ cost m n k = 0) ∨ (9 ≤ ct m n (2 ^ k) ∧ 1 ≤ cost m n k ∧ ct m n (2 ^ k) * 2 ^ k ≤ 6597069766659 * 4096 ∧ 1 ≤ ct m n (2 ^ k) * 2 ^ k ∧ cost m n k ≤ 6597069766659 * 4096 * 13) := by
  rcases ct_ge m n (2 ^ k) with h | ⟨h1, h2⟩
  · refine .inl ⟨h, ?_⟩
    unfold cost; rw [h, Int.zero_mul, Int.zero_mul]
  · refine .inr ⟨h1, ?_⟩
    have hb := pow_bd k hk
    unfold cost
    generalize (2 : Int) ^ k = p at *
    generalize ct m n p = c at *
    have a1 : c * p ≤ 6597069766659 * 4096 := Int.mul_le_mul (by omega) (by omega) (by omega) (by omega)
    have a2 : 1 * 1 ≤ c * p := Int.mul_le_mul (by omega) (by omega) (by omega) (by omega)
    generalize c * p = q at *
    have a3 : q * ((k : Int) + 1) ≤ 6597069766659 * 4096 * 13 := Int.mul_le_mul a1 (by omega) (by omega) (by omega)
    have a4 : 1 * 1 ≤ q * ((k : Int) + 1) := Int.mul_le_mul (by omega) (by omega) (by omega) (by omega)
    omega
def fb (m n : Int) : Nat → Int × Int
  | 0 => (0, 0)
  | k + 1 => if 0 < cost m n k ∧ ((fb m n k).1 = 0 ∨ cost m n k < (fb m n k).2) then (2 ^ k, cost m n k) else fb m n k
theorem fb_up {m n : Int} {k : Nat} (h : 0 < cost m n k ∧ ((fb m n k).1 = 0 ∨ cost m n k < (fb m n k).2)) : fb m n (k + 1) = (2 ^ k, cost m n k) := if_pos h
theorem fb_stay {m n : Int} {k : Nat} (h : ¬ (0 < cost m n k ∧ ((fb m n k).1 = 0 ∨ cost m n k < (fb m n k).2))) : fb m n (k + 1) = fb m n k := if_neg h
/-- What the best one is, behind k sizes. -/
theorem fb_inv (m n : Int) : ∀ k, k ≤ 13 → ((fb m n k).1 = 0 ∧ (fb m n k).2 = 0 ∧ ∀ j, j < k → ct m n (2 ^ j) = 0) ∨ (∃ j, j < k ∧ (fb m n k).1 = 2 ^ j ∧ (fb m n k).2 = cost m n j ∧ 9 ≤ ct m n (2 ^ j))
  | 0, _ => .inl ⟨rfl, rfl, fun j h => by omega⟩
  | k + 1, hk => by
    rcases cost_bd m n k (by omega) with ⟨hc, hz⟩ | ⟨hc, hp, _⟩
    · rw [fb_stay (by omega)]
      rcases fb_inv m n k (by omega) with ⟨h1, h2, h3⟩ | ⟨j, hj, h⟩
      · refine .inl ⟨h1, h2, fun j hj => ?_⟩
        by_cases e : j = k
        · subst e; exact hc
        · exact h3 j (by omega)
      · exact .inr ⟨j, by omega, h⟩
    · by_cases h : 0 < cost m n k ∧ ((fb m n k).1 = 0 ∨ cost m n k < (fb m n k).2)
      · rw [fb_up h]
        exact .inr ⟨k, by omega, rfl, rfl, hc⟩
      · rw [fb_stay h]
        rcases fb_inv m n k (by omega) with ⟨h1, _, _⟩ | ⟨j, hj, h'⟩
        · exact absurd ⟨by omega, .inl h1⟩ h
        · exact .inr ⟨j, by omega, h'⟩
theorem fb_bd (m n : Int) (k : Nat) (hk : k ≤ 13) : 0 ≤ (fb m n k).1 ∧ (fb m n k).1 ≤ 4096 ∧ 0 ≤ (fb m n k).2 ∧ (fb m n k).2 ≤ 6597069766659 * 4096 * 13 := by
  rcases fb_inv m n k hk with ⟨h1, h2, _⟩ | ⟨j, hj, h1, h2, _⟩
  · omega
  · have := pow_bd j (by omega)
    rcases cost_bd m n j (by omega) with ⟨_, h⟩ | ⟨_, h⟩ <;> omega
theorem fb_zero (m n : Int) : (fb m n 13).1 = 0 ↔ (m < 1 ∨ n < m ∨ 4096 < m) := by
  constructor
  · intro h
    rcases fb_inv m n 13 (by omega) with ⟨_, _, h3⟩ | ⟨j, hj, h1, _⟩
    · apply Classical.byContradiction
      intro hn
      have := h3 12 (by omega)
      rcases ct_ge m n (2 ^ 12) with h | h
      · rw [ct_yes (by omega) (by omega) (szb_of (l := 12) (by omega) rfl (by omega))] at h
        have : 0 ≤ (min n 1099511627776 - m + 1 + ((2 : Int) ^ 12 - m + 1) - 1) / ((2 : Int) ^ 12 - m + 1) := Int.ediv_nonneg (by omega) (by omega)
        omega
      · omega
    · have := pow_bd j (by omega); omega
  · intro h
    rcases fb_inv m n 13 (by omega) with ⟨h1, _⟩ | ⟨j, hj, _, _, h9⟩
    · exact h1
    · exfalso
      have := pow_bd j (by omega)
      rw [ct_no (fun hh => by
        obtain ⟨l, hl, hs, hms⟩ := szb_yes hh.2
        omega)] at h9
      omega
theorem fb_pos {m n : Int} (h : (fb m n 13).1 ≠ 0) : 9 ≤ ct m n (fb m n 13).1 ∧ ∃ j : Nat, j ≤ 12 ∧ (fb m n 13).1 = 2 ^ j := by
  rcases fb_inv m n 13 (by omega) with ⟨h1, _⟩ | ⟨j, hj, h1, _, h9⟩
  · exact absurd h1 h
  · rw [h1]; exact ⟨h9, j, by omega, rfl⟩

/-! what a block tells -/
theorem cyc_cr (k : Int) (n S : Nat) (hn : 1 ≤ n) (P U : Nat → Int) (i : Nat) (hi : i + n ≤ S) : cyc k S (pd n (fun j => P (n - 1 - j))) U (n - 1 + i) = md k (cr n P U i) := by
  unfold cyc cr
  rw [sm_trunc (n := n) (N := S) (by omega) (fun x h1 h2 => by
    refine Eq.trans (sm_congr fun j _ => ?_) (sm_zero S)
    unfold pd
    rw [if_neg (show ¬ x < n by omega), Int.zero_mul]
    split <;> rfl)]
  rw [← sm_rev n (fun j => P j * U (i + j))]
  congr 1
  refine sm_congr fun x hx => ?_
  rw [sm_single (j := n - 1 + i - x) (by omega) (fun j hj hne => by
    rw [if_neg]
    intro e
    rcases Nat.lt_or_ge (x + j) S with h | h
    · rw [Nat.mod_eq_of_lt h] at e; omega
    · rw [Nat.mod_eq_sub_mod h, Nat.mod_eq_of_lt (by omega)] at e; omega)]
  rw [if_pos (by rw [show x + (n - 1 + i - x) = n - 1 + i by omega]; exact Nat.mod_eq_of_lt (by omega))]
  unfold pd
  rw [if_pos hx, show i + (n - 1 - x) = n - 1 + i - x by omega]
theorem cr_pd (n m s : Nat) (P T : Nat → Int) (i : Nat) (hi : s + i + n ≤ m) : cr n P (pd (m - s) (fun t => T (s + t))) i = cr n P T (s + i) := by
  unfold cr
  refine sm_congr fun j hj => ?_
  unfold pd
  rw [if_pos (by omega), Nat.add_assoc]

/-! which error there is; how many numbers are told; how many transforms it took -/
def bc (n m : Nat) (P T : Nat → Int) (s : Int) : Int := if n = 0 ∨ m < n then 0 else if szb n s = false then 50 else if 18446744073709551616 ≤ gr n P * gr m T * (n : Int) then 40 else 0
theorem bc_none {n m : Nat} {P T : Nat → Int} {s : Int} (h : n = 0 ∨ m < n) : bc n m P T s = 0 := if_pos h
theorem bc_size {n m : Nat} {P T : Nat → Int} {s : Int} (h : ¬ (n = 0 ∨ m < n)) (h2 : szb n s = false) : bc n m P T s = 50 := by unfold bc; rw [if_neg h, if_pos h2]
theorem bc_big {n m : Nat} {P T : Nat → Int} {s : Int} (h : ¬ (n = 0 ∨ m < n)) (h2 : szb n s = true) (h3 : 18446744073709551616 ≤ gr n P * gr m T * (n : Int)) : bc n m P T s = 40 := by unfold bc; rw [if_neg h, if_neg (by rw [h2]; simp), if_pos h3]
theorem bc_ok {n m : Nat} {P T : Nat → Int} {s : Int} (h : ¬ (n = 0 ∨ m < n)) (h2 : szb n s = true) (h3 : ¬ 18446744073709551616 ≤ gr n P * gr m T * (n : Int)) : bc n m P T s = 0 := by unfold bc; rw [if_neg h, if_neg (by rw [h2]; simp), if_neg h3]
def bl (n m : Nat) (P T : Nat → Int) (s : Int) : Nat := if n = 0 ∨ m < n then 0 else if bc n m P T s = 0 then m + 1 - n else 0
theorem bl_none {n m : Nat} {P T : Nat → Int} {s : Int} (h : n = 0 ∨ m < n) : bl n m P T s = 0 := if_pos h
theorem bl_ok {n m : Nat} {P T : Nat → Int} {s : Int} (h : ¬ (n = 0 ∨ m < n)) (h2 : bc n m P T s = 0) : bl n m P T s = m + 1 - n := by unfold bl; rw [if_neg h, if_pos h2]
theorem bl_no {n m : Nat} {P T : Nat → Int} {s : Int} (h2 : bc n m P T s ≠ 0) : bl n m P T s = 0 := by
  unfold bl; rw [if_neg h2]; split <;> rfl
def bq (n m : Nat) (P T : Nat → Int) (s : Int) : Int := if bc n m P T s = 0 then ct n m s else 0
theorem bq_ok {n m : Nat} {P T : Nat → Int} {s : Int} (h2 : bc n m P T s = 0) : bq n m P T s = ct n m s := if_pos h2
theorem bq_no {n m : Nat} {P T : Nat → Int} {s : Int} (h2 : bc n m P T s ≠ 0) : bq n m P T s = 0 := if_neg h2
theorem bq_none {n m : Nat} {P T : Nat → Int} {s : Int} (h : n = 0 ∨ m < n) : bq n m P T s = 0 := by
  rw [bq_ok (bc_none h), ct_no (by omega)]
theorem cr_fits {n m : Nat} {P T : Nat → Int} (hT : ∀ t, 0 ≤ T t) (h : ¬ 18446744073709551616 ≤ gr n P * gr m T * (n : Int)) (i : Nat) (hi : i + n ≤ m) : cr n P T i ≤ 18446744073709551615 := by
  have := cr_le (n := n) (m := m) (p := P) (t := T) (X := gr n P) (Y := gr m T) hT (gr_nonneg _ _) (gr_le n P) (gr_le m T) i hi
  rw [Int.mul_comm] at this
  omega
end Go.Proofs.YtlogdjhnhnfbkaaDoor.Res
