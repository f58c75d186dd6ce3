/- Contract of the document's own Check. -/
import Derived.Test.YtcppcfbcgopmoaaDoorConvSize
namespace Go.Proofs.YtcppcfbcgopmoaaDoor
open Go.RowKit Res

set_option maxHeartbeats 1000000 in
theorem check_le (ao bo : Option Addr) (n m ca cb : Nat) (h1 : 1 ≤ n) (hnm : n ≤ m) (hlong : ¬ 4097 < n + m) (X Y : Int) (hX0 : 0 ≤ X) (hY0 : 0 ≤ Y) (hX1 : X ≤ 18446744073709551615) (hY1 : Y ≤ 18446744073709551615) (w : World)
    (c1 : Hid (Calls Tryd.prog 14 #[.slice ao n ca] w fun e w' => e = .returned (.int .u64 X) ∧ w' = w)) (c2 : Hid (Calls Tryd.prog 14 #[.slice bo m cb] w fun e w' => e = .returned (.int .u64 Y) ∧ w' = w)) :
    Calls Tryd.prog 25 #[.slice ao n ca, .slice bo m cb] w fun e w' => e = .returned (.int .i64 (er n m X Y)) ∧ w' = w := by
  have hk : min n m = n := by omega
  have hlong' : (n : Int) + (m : Int) ≤ 4097 := by omega
  have hz : (n : Int) ≤ (m : Int) := by omega
  by_cases hXz : X = 0
  · subst hXz
    rw [er_ok hlong (by rw [Int.zero_mul, Int.zero_mul]; omega)]
    go_enter Tryd.func25, Tryd.ntmps25
    go_wp2_with fail
    refine Calls.mono (Hid.out c1) ?_; rintro e w' ⟨rfl, hw'⟩; subst w'
    go_wp2_with fail
    refine Calls.mono (Hid.out c2) ?_; rintro e w' ⟨rfl, hw'⟩; subst w'
    go_wp2_with fail
    go_ret
    exact ⟨rfl, rfl⟩
  by_cases hYz : Y = 0
  · have eX : (X == 0) = false := beq_eq_false_iff_ne.2 hXz
    subst hYz
    rw [er_ok hlong (by rw [Int.mul_zero, Int.zero_mul]; omega)]
    go_enter Tryd.func25, Tryd.ntmps25
    go_wp2_with fail
    refine Calls.mono (Hid.out c1) ?_; rintro e w' ⟨rfl, hw'⟩; subst w'
    go_wp2_with fail
    refine Calls.mono (Hid.out c2) ?_; rintro e w' ⟨rfl, hw'⟩; subst w'
    go_wp2_with fail
    go_ret
    exact ⟨rfl, rfl⟩
  have hXp : 0 < X := by omega
  have eX : (X == 0) = false := beq_eq_false_iff_ne.2 hXz
  have eY : (Y == 0) = false := beq_eq_false_iff_ne.2 hYz
  obtain ⟨P, hP⟩ : ∃ P, P = X * Y := ⟨_, rfl⟩
  have hP1 : 0 < P := by rw [hP]; exact Int.mul_pos hXp (by omega)
  have q1 := quot_big (x := X) (y := Y) hXp
  rw [← hP] at q1
  have hPk : P * 1 ≤ P * (n : Int) := Int.mul_le_mul_of_nonneg_left (by omega) (by omega)
  obtain ⟨D, hD⟩ : ∃ D, 18446744073709551615 / X = D := ⟨_, rfl⟩
  rw [hD] at q1
  by_cases hb1 : D < Y
  · rw [er_big hlong (by rw [hk, ← hP]; have := q1.1 hb1; omega)]
    clear hP hPk q1 hk
    go_enter Tryd.func25, Tryd.ntmps25
    go_wp2_with fail
    refine Calls.mono (Hid.out c1) ?_; rintro e w' ⟨rfl, hw'⟩; subst w'
    go_wp2_with fail
    refine Calls.mono (Hid.out c2) ?_; rintro e w' ⟨rfl, hw'⟩; subst w'
    go_wp2_with fail
    go_ret
    exact ⟨rfl, rfl⟩
  have hPm : P ≤ 18446744073709551615 := by
    rcases Int.lt_or_le P 18446744073709551616 with h | h
    · omega
    · exact absurd (q1.2 h) hb1
  have q2 := quot_big (x := P) (y := (n : Int)) hP1
  obtain ⟨E, hE⟩ : ∃ E, 18446744073709551615 / P = E := ⟨_, rfl⟩
  rw [hE] at q2
  have hP' : X * Y = P := hP.symm
  have hPn : P ≠ 0 := by omega
  by_cases hb2 : E < (n : Int)
  · rw [er_big hlong (by rw [hk, ← hP]; exact q2.1 hb2)]
    clear hP hPk q1 q2 hk
    go_enter Tryd.func25, Tryd.ntmps25
    go_wp2_with fail
    refine Calls.mono (Hid.out c1) ?_; rintro e w' ⟨rfl, hw'⟩; subst w'
    go_wp2_with fail
    refine Calls.mono (Hid.out c2) ?_; rintro e w' ⟨rfl, hw'⟩; subst w'
    go_wp2_with fail
    go_ret
    exact ⟨rfl, rfl⟩
  · rw [er_ok hlong (by rw [hk, ← hP]; exact fun h => hb2 (q2.2 h))]
    clear hP hPk q1 q2 hk
    go_enter Tryd.func25, Tryd.ntmps25
    go_wp2_with fail
    refine Calls.mono (Hid.out c1) ?_; rintro e w' ⟨rfl, hw'⟩; subst w'
    go_wp2_with fail
    refine Calls.mono (Hid.out c2) ?_; rintro e w' ⟨rfl, hw'⟩; subst w'
    go_wp2_with fail
    go_ret
    exact ⟨rfl, rfl⟩

set_option maxHeartbeats 1000000 in
theorem check_gt (ao bo : Option Addr) (n m ca cb : Nat) (h1 : 1 ≤ m) (hnm : m < n) (hlong : ¬ 4097 < n + m) (X Y : Int) (hX0 : 0 ≤ X) (hY0 : 0 ≤ Y) (hX1 : X ≤ 18446744073709551615) (hY1 : Y ≤ 18446744073709551615) (w : World)
    (c1 : Hid (Calls Tryd.prog 14 #[.slice ao n ca] w fun e w' => e = .returned (.int .u64 X) ∧ w' = w)) (c2 : Hid (Calls Tryd.prog 14 #[.slice bo m cb] w fun e w' => e = .returned (.int .u64 Y) ∧ w' = w)) :
    Calls Tryd.prog 25 #[.slice ao n ca, .slice bo m cb] w fun e w' => e = .returned (.int .i64 (er n m X Y)) ∧ w' = w := by
  have hk : min n m = m := by omega
  have hlong' : (n : Int) + (m : Int) ≤ 4097 := by omega
  have hz : (m : Int) < (n : Int) := by omega
  by_cases hXz : X = 0
  · subst hXz
    rw [er_ok hlong (by rw [Int.zero_mul, Int.zero_mul]; omega)]
    go_enter Tryd.func25, Tryd.ntmps25
    go_wp2_with fail
    refine Calls.mono (Hid.out c1) ?_; rintro e w' ⟨rfl, hw'⟩; subst w'
    go_wp2_with fail
    refine Calls.mono (Hid.out c2) ?_; rintro e w' ⟨rfl, hw'⟩; subst w'
    go_wp2_with fail
    go_ret
    exact ⟨rfl, rfl⟩
  by_cases hYz : Y = 0
  · have eX : (X == 0) = false := beq_eq_false_iff_ne.2 hXz
    subst hYz
    rw [er_ok hlong (by rw [Int.mul_zero, Int.zero_mul]; omega)]
    go_enter Tryd.func25, Tryd.ntmps25
    go_wp2_with fail
    refine Calls.mono (Hid.out c1) ?_; rintro e w' ⟨rfl, hw'⟩; subst w'
    go_wp2_with fail
    refine Calls.mono (Hid.out c2) ?_; rintro e w' ⟨rfl, hw'⟩; subst w'
    go_wp2_with fail
    go_ret
    exact ⟨rfl, rfl⟩
  have hXp : 0 < X := by omega
  have eX : (X == 0) = false := beq_eq_false_iff_ne.2 hXz
  have eY : (Y == 0) = false := beq_eq_false_iff_ne.2 hYz
  obtain ⟨P, hP⟩ : ∃ P, P = X * Y := ⟨_, rfl⟩
  have hP1 : 0 < P := by rw [hP]; exact Int.mul_pos hXp (by omega)
  have q1 := quot_big (x := X) (y := Y) hXp
  rw [← hP] at q1
  have hPk : P * 1 ≤ P * (m : Int) := Int.mul_le_mul_of_nonneg_left (by omega) (by omega)
  obtain ⟨D, hD⟩ : ∃ D, 18446744073709551615 / X = D := ⟨_, rfl⟩
  rw [hD] at q1
  by_cases hb1 : D < Y
  · rw [er_big hlong (by rw [hk, ← hP]; have := q1.1 hb1; omega)]
    clear hP hPk q1 hk
    go_enter Tryd.func25, Tryd.ntmps25
    go_wp2_with fail
    refine Calls.mono (Hid.out c1) ?_; rintro e w' ⟨rfl, hw'⟩; subst w'
    go_wp2_with fail
    refine Calls.mono (Hid.out c2) ?_; rintro e w' ⟨rfl, hw'⟩; subst w'
    go_wp2_with fail
    go_ret
    exact ⟨rfl, rfl⟩
  have hPm : P ≤ 18446744073709551615 := by
    rcases Int.lt_or_le P 18446744073709551616 with h | h
    · omega
    · exact absurd (q1.2 h) hb1
  have q2 := quot_big (x := P) (y := (m : Int)) hP1
  obtain ⟨E, hE⟩ : ∃ E, 18446744073709551615 / P = E := ⟨_, rfl⟩
  rw [hE] at q2
  have hP' : X * Y = P := hP.symm
  have hPn : P ≠ 0 := by omega
  by_cases hb2 : E < (m : Int)
  · rw [er_big hlong (by rw [hk, ← hP]; exact q2.1 hb2)]
    clear hP hPk q1 q2 hk
    go_enter Tryd.func25, Tryd.ntmps25
    go_wp2_with fail
    refine Calls.mono (Hid.out c1) ?_; rintro e w' ⟨rfl, hw'⟩; subst w'
    go_wp2_with fail
    refine Calls.mono (Hid.out c2) ?_; rintro e w' ⟨rfl, hw'⟩; subst w'
    go_wp2_with fail
    go_ret
    exact ⟨rfl, rfl⟩
  · rw [er_ok hlong (by rw [hk, ← hP]; exact fun h => hb2 (q2.2 h))]
    clear hP hPk q1 q2 hk
    go_enter Tryd.func25, Tryd.ntmps25
    go_wp2_with fail
    refine Calls.mono (Hid.out c1) ?_; rintro e w' ⟨rfl, hw'⟩; subst w'
    go_wp2_with fail
    refine Calls.mono (Hid.out c2) ?_; rintro e w' ⟨rfl, hw'⟩; subst w'
    go_wp2_with fail
    go_ret
    exact ⟨rfl, rfl⟩

set_option maxHeartbeats 400000 in
theorem check_any (ao bo : Option Addr) (n m ca cb : Nat) (h1 : 1 ≤ n) (h2 : 1 ≤ m) (hn : n ≤ 1152921504606846976) (hm : m ≤ 1152921504606846976) (A B : Nat → Int) (hA : ∀ t, A t ≤ 18446744073709551615) (hB : ∀ t, B t ≤ 18446744073709551615) (w : World) (la : Lies w ao n A) (lb : Lies w bo m B) :
    Calls Tryd.prog 25 #[.slice ao n ca, .slice bo m cb] w fun e w' => e = .returned (.int .i64 (er n m (gr n A) (gr m B))) ∧ w' = w := by
  by_cases hlong : 4097 < n + m
  · rw [er_long hlong]
    clear la lb
    have hi : (4097 : Int) < (n : Int) + (m : Int) := by omega
    go_enter Tryd.func25, Tryd.ntmps25
    go_wp2_with fail
    go_ret
    exact ⟨rfl, rfl⟩
  by_cases hnm : n ≤ m
  · exact check_le ao bo n m ca cb h1 hnm hlong _ _ (gr_nonneg _ _) (gr_nonneg _ _) (gr_hi (by omega) hA n) (gr_hi (by omega) hB m) w (refGreatest_any ao n ca hn A w la) (refGreatest_any bo m cb hm B w lb)
  · exact check_gt ao bo n m ca cb h2 (by omega) hlong _ _ (gr_nonneg _ _) (gr_nonneg _ _) (gr_hi (by omega) hA n) (gr_hi (by omega) hB m) w (refGreatest_any ao n ca hn A w la) (refGreatest_any bo m cb hm B w lb)
end Go.Proofs.YtcppcfbcgopmoaaDoor
