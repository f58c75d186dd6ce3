/- Contracts of ntt.Log and of the document's own Log. -/
import Derived.Test.YtlogdjhnhnfbkaaDoorResInv
import Derived.Test.YtlogdjhnhnfbkaaDoorMathA
namespace Go.Proofs.YtlogdjhnhnfbkaaDoor
open Go.RowKit Res
theorem ret_ib {a b : Int} {x y : Bool} (h : a = b) (h2 : x = y) : Ending.returned (.tuple #[.int .i64 a, .bool x]) = .returned (.tuple #[.int .i64 b, .bool y]) := by rw [h, h2]
theorem two_pow_inj {i m : Nat} (h : 2 ^ i = 2 ^ m) : i = m := by
  rcases Nat.lt_trichotomy i m with h1 | h1 | h1
  · have := Nat.pow_lt_pow_right (a := 2) (by omega) h1; omega
  · exact h1
  · have := Nat.pow_lt_pow_right (a := 2) (by omega) h1; omega
theorem two_pow_bd (i : Nat) (hi : i ≤ 13) : 0 ≤ (2 : Int) ^ i ∧ (2 : Int) ^ i ≤ 8192 := by
  have h := Nat.pow_le_pow_right (n := 2) (by omega) hi
  rw [show (2 : Int) ^ i = ((2 ^ i : Nat) : Int) by rw [Int.natCast_pow]; rfl]
  exact ⟨Int.natCast_nonneg _, Int.ofNat_le.2 h⟩

set_option maxHeartbeats 400000 in
theorem log_yes (n : Int) (m : Nat) (hm : m ≤ 12) (hn : n = 2 ^ m) (w : World) : Calls Tryd.prog 80 #[.int .i64 n] w fun e w' => e = .returned (.tuple #[.int .i64 m, .bool true]) ∧ w' = w := by
  have HN : Hid (n = 2 ^ m) := hn
  clear hn
  go_enter Tryd.func80, Tryd.ntmps80
  go_wp2_with fail
  go_loop [5] (fun v => ∃ i : Nat, i ≤ m ∧ v = .int .i64 i) (fun v => 13 - (intOf v).toNat)
  case atStart => exact ⟨0, Nat.zero_le _, rfl⟩
  case round =>
    obtain ⟨i, hi, rfl⟩ := hrel
    have hb := two_pow_bd i (by omega)
    by_cases e : i = m
    · subst e
      have hne : ((2 : Int) ^ i == n) = true := beq_iff_eq.2 HN.out.symm
      go_wp2_with fail
      go_ret2
      exact ⟨rfl, rfl⟩
    · have hne : ((2 : Int) ^ i == n) = false := beq_eq_false_iff_ne.2 (by
        rw [HN.out]
        intro e2
        have h1 : (2 : Nat) ^ i = 2 ^ m := by
          have : ((2 ^ i : Nat) : Int) = ((2 ^ m : Nat) : Int) := by rw [Int.natCast_pow, Int.natCast_pow]; exact e2
          exact Int.ofNat.inj this
        exact e (two_pow_inj h1))
      go_wp2_with fail
      go_round
      case rel => exact ⟨i + 1, by omega, by go_num⟩
      case measure => simp [intOf]; omega

set_option maxHeartbeats 400000 in
theorem log_no (n : Int) (hn : ∀ m : Nat, m ≤ 12 → n ≠ 2 ^ m) (w : World) : Calls Tryd.prog 80 #[.int .i64 n] w fun e w' => e = .returned (.tuple #[.int .i64 0, .bool false]) ∧ w' = w := by
  have HN : Hid _ := hn
  clear hn
  go_enter Tryd.func80, Tryd.ntmps80
  go_wp2_with fail
  go_loop [5] (fun v => ∃ i : Nat, i ≤ 13 ∧ v = .int .i64 i) (fun v => 13 - (intOf v).toNat)
  case atStart => exact ⟨0, Nat.zero_le _, rfl⟩
  case round =>
    obtain ⟨i, hi, rfl⟩ := hrel
    have hb := two_pow_bd i (by omega)
    by_cases e : i < 13
    · have hne : ((2 : Int) ^ i == n) = false := beq_eq_false_iff_ne.2 (fun e2 => HN.out i (by omega) e2.symm)
      go_wp2_with fail
      go_round
      case rel => exact ⟨i + 1, by omega, by go_num⟩
      case measure => simp [intOf]; omega
    · go_wp2_with fail
      go_ret2
      exact ⟨rfl, rfl⟩

set_option maxHeartbeats 400000 in
theorem refLog_yes (n : Int) (m : Nat) (hm : m ≤ 12) (hn : n = 2 ^ m) (w : World) : Calls Tryd.prog 58 #[.int .i64 n] w fun e w' => e = .returned (.tuple #[.int .i64 m, .bool true]) ∧ w' = w := by
  have HN : Hid (n = 2 ^ m) := hn
  clear hn
  go_enter Tryd.func58, Tryd.ntmps58
  go_wp2_with fail
  go_loop [4, 5] (fun p v => ∃ i : Nat, i ≤ m ∧ v = .int .i64 i ∧ p = .int .i64 (2 ^ i)) (fun _ v => 13 - (intOf v).toNat)
  case atStart => exact ⟨0, Nat.zero_le _, rfl, by simp⟩
  case round =>
    obtain ⟨i, hi, rfl, rfl⟩ := hrel
    have hb := two_pow_bd i (by omega)
    by_cases e : i = m
    · subst e
      have hne : ((2 : Int) ^ i == n) = true := beq_iff_eq.2 HN.out.symm
      go_wp2_with fail
      go_ret2
      exact ⟨rfl, rfl⟩
    · have hne : ((2 : Int) ^ i == n) = false := beq_eq_false_iff_ne.2 (by
        rw [HN.out]
        intro e2
        have h1 : (2 : Nat) ^ i = 2 ^ m := by
          have : ((2 ^ i : Nat) : Int) = ((2 ^ m : Nat) : Int) := by rw [Int.natCast_pow, Int.natCast_pow]; exact e2
          exact Int.ofNat.inj this
        exact e (two_pow_inj h1))
      go_wp2_with fail
      go_round
      case rel => exact ⟨i + 1, by omega, by go_num, by rw [Int.pow_succ, Int.mul_comm]⟩
      case measure => simp [intOf]; omega

set_option maxHeartbeats 400000 in
theorem refLog_no (n : Int) (hn : ∀ m : Nat, m ≤ 12 → n ≠ 2 ^ m) (w : World) : Calls Tryd.prog 58 #[.int .i64 n] w fun e w' => e = .returned (.tuple #[.int .i64 0, .bool false]) ∧ w' = w := by
  have HN : Hid _ := hn
  clear hn
  go_enter Tryd.func58, Tryd.ntmps58
  go_wp2_with fail
  go_loop [4, 5] (fun p v => ∃ i : Nat, i ≤ 13 ∧ v = .int .i64 i ∧ p = .int .i64 (2 ^ i)) (fun _ v => 13 - (intOf v).toNat)
  case atStart => exact ⟨0, Nat.zero_le _, rfl, by simp⟩
  case round =>
    obtain ⟨i, hi, rfl, rfl⟩ := hrel
    have hb := two_pow_bd i (by omega)
    by_cases e : i < 13
    · have hne : ((2 : Int) ^ i == n) = false := beq_eq_false_iff_ne.2 (fun e2 => HN.out i (by omega) e2.symm)
      go_wp2_with fail
      go_round
      case rel => exact ⟨i + 1, by omega, by go_num, by rw [Int.pow_succ, Int.mul_comm]⟩
      case measure => simp [intOf]; omega
    · go_wp2_with fail
      go_ret2
      exact ⟨rfl, rfl⟩

/-! the root of a number of numbers -/
/-- What the root is: 3 to the (prime - 1) / 2^m. -/
def rt (k : Int) (m : Nat) : Int := md k (3 ^ ((pr k - 1).toNat / 2 ^ m))

set_option maxHeartbeats 400000 in
theorem rootFor_noprime (k n : Int) (w : World) (hT : Tab w) (hp : pr k = 0) : Calls Tryd.prog 93 #[.int .i64 k, .int .i64 n] w fun e w' => e = .returned (.tuple #[.int .u64 0, .int .i64 20]) ∧ w' = w := by
  have hb : (pr k == 0) = true := beq_iff_eq.2 hp
  clear hp
  go_enter Tryd.func93, Tryd.ntmps93
  go_wp2_with (go_at_call 100; refine (prime_any _ _ hT).mono ?_; rintro e w' ⟨rfl, hw'⟩; subst w')
  go_ret2
  exact ⟨rfl, rfl⟩

set_option maxHeartbeats 400000 in
theorem rootFor_nolen (k n : Int) (w : World) (hT : Tab w) (hp : pr k ≠ 0) (hn : ∀ m : Nat, m ≤ 12 → n ≠ 2 ^ m) : Calls Tryd.prog 93 #[.int .i64 k, .int .i64 n] w fun e w' => e = .returned (.tuple #[.int .u64 0, .int .i64 21]) ∧ w' = w := by
  have hb : (pr k == 0) = false := beq_eq_false_iff_ne.2 hp
  have c1 : Hid (Calls _ _ _ _ _) := log_no n hn w
  clear hp hn
  go_enter Tryd.func93, Tryd.ntmps93
  go_wp2_with (go_at_call 100; refine (prime_any _ _ hT).mono ?_; rintro e w' ⟨rfl, hw'⟩; subst w')
  refine Calls.mono (Hid.out c1) ?_; rintro e w' ⟨rfl, hw'⟩; subst w'
  go_wp2_with fail
  go_ret2
  exact ⟨rfl, rfl⟩

set_option maxHeartbeats 400000 in
theorem rootFor_yes (k n : Int) (m : Nat) (w : World) (hT : Tab w) (hp : pr k ≠ 0) (hm : m ≤ 12) (hn : n = 2 ^ m) : Calls Tryd.prog 93 #[.int .i64 k, .int .i64 n] w fun e w' => e = .returned (.tuple #[.int .u64 (rt k m), .int .i64 0]) ∧ w' = w := by
  have hb : (pr k == 0) = false := beq_eq_false_iff_ne.2 hp
  have c1 : Hid (Calls _ _ _ _ _) := log_yes n m hm hn w
  have c2 : Hid (Calls _ _ _ _ _) := root_yes k m w hT hp (by omega) (by omega)
  rw [Int.toNat_natCast] at c2
  have hr : Hid (md k (3 ^ ((pr k - 1).toNat / 2 ^ m)) = rt k m) := rfl
  rw [hr.out] at c2
  clear hp hn hr
  generalize rt k m = x at *
  go_enter Tryd.func93, Tryd.ntmps93
  go_wp2_with (go_at_call 100; refine (prime_any _ _ hT).mono ?_; rintro e w' ⟨rfl, hw'⟩; subst w')
  refine Calls.mono (Hid.out c1) ?_; rintro e w' ⟨rfl, hw'⟩; subst w'
  go_wp2_with fail
  refine Calls.mono (Hid.out c2) ?_; rintro e w' ⟨rfl, hw'⟩; subst w'
  go_wp2_with fail
  go_ret2
  exact ⟨rfl, rfl⟩

/-! facts on the root -/
theorem rt_nonneg (k : Int) (m : Nat) : 0 ≤ rt k m := md_nonneg _ _
theorem rt_le (k : Int) (m : Nat) : rt k m ≤ 998244352 := md_le _ _
theorem rt_zero (k : Int) (hp : pr k ≠ 0) : md k (rt k 0) = 1 := by
  have := root_one k 0 hp (by omega)
  rw [show (2 : Nat) ^ 0 = 1 by decide, Int.pow_succ, Int.pow_zero, Int.one_mul] at this
  exact this
theorem rt_half (k : Int) (hp : pr k ≠ 0) (m : Nat) (hm : m ≤ 12) : m = 0 ∨ md k (rt k m ^ (2 ^ (m - 1))) = pr k - 1 := by
  cases m with
  | zero => exact Or.inl rfl
  | succ m => exact Or.inr (root_half k m hp (by omega))
theorem rt_full (k : Int) (hp : pr k ≠ 0) (m : Nat) (hm : m ≤ 12) : Eqm k (rt k m ^ (2 ^ m)) 1 :=
  root_full hp (fun e => by subst e; exact rt_zero k hp) (rt_half k hp m hm)
theorem rt_ne (k : Int) (hp : pr k ≠ 0) (m : Nat) (hm : m ≤ 12) : md k (rt k m) ≠ 0 := by
  intro e
  have h := rt_full k hp m hm
  unfold Eqm at h
  rw [← md_pow, e, Int.zero_pow (by have := Nat.one_le_two_pow (n := m); omega), md_zero, md_one hp] at h
  omega
theorem len_ne (k : Int) (hp : pr k ≠ 0) (m : Nat) (hm : m ≤ 12) : md k (2 ^ m) ≠ 0 := by
  have h1 := Nat.one_le_two_pow (n := m)
  have h2 := Nat.pow_le_pow_right (n := 2) (by omega) hm
  have h3 : (2 : Int) ^ m = ((2 ^ m : Nat) : Int) := by rw [Int.natCast_pow]; rfl
  rw [md_of_lt (by omega) (by have := pr_pos hp; omega)]
  omega
end Go.Proofs.YtlogdjhnhnfbkaaDoor
