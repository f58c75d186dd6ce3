/- Contracts of block.Count and of the document's own Count, of any numbers. -/
import Derived.Test.YtdffofpoilfhiaaDoorBlkSld
namespace Go.Proofs.YtdffofpoilfhiaaDoor
open Go.RowKit Res

theorem ret_i {a b : Int} (h : a = b) : Ending.returned (.int .i64 a) = .returned (.int .i64 b) := by rw [h]
/-- The numbers of a count, by letters. -/
theorem ct_parts (m n s : Int) (h1 : 1 ≤ m) (h2 : m ≤ n) (hz : szb m s = true) (N : Int) (hN : min n 1099511627776 = N) : ∃ A E B q, N - m + 1 = A ∧ s - m + 1 = E ∧ A + E - 1 = B ∧ B / E = q ∧ ct m n s = 3 + 6 * q ∧ A / E + (if A % E = 0 then 0 else 1) = q ∧ 1 ≤ A ∧ A ≤ 1099511627776 ∧ 1 ≤ E ∧ E ≤ 4096 ∧ 1 ≤ q ∧ q ≤ 1099511627776 ∧ m ≤ N ∧ m ≤ 4096 ∧ s ≤ 4096 := by
  obtain ⟨l, hl, hs, hms⟩ := szb_yes hz
  have hb := pow_bd l hl
  rw [← hs] at hb
  refine ⟨_, _, _, _, rfl, rfl, rfl, rfl, by rw [ct_yes h1 h2 hz, hN], (ceil_div (by omega)).symm, by omega, by omega, by omega, by omega, ?_, ?_, by omega, by omega, by omega⟩
  · have := ct_ge m n s
    rw [ct_yes h1 h2 hz, hN] at this
    omega
  · have := ct_ge m n s
    rw [ct_yes h1 h2 hz, hN] at this
    omega

set_option maxHeartbeats 400000 in
theorem count_any (m n s : Int) (w : World) : Calls Tryd.prog 14 #[.int .i64 m, .int .i64 n, .int .i64 s] w fun e w' => e = .returned (.int .i64 (ct m n s)) ∧ w' = w := by
  by_cases hsl : 1 ≤ m ∧ m ≤ n
  · have c1 : Hid _ := slides_yes m n hsl.1 hsl.2 w
    have c2 : Hid _ := holds_any m s w
    cases hz : szb m s with
    | false =>
      rw [ct_no (by rw [hz]; simp)]
      rw [hz] at c2
      clear hsl hz
      go_enter Tryd.func14, Tryd.ntmps14
      go_wp2_with fail
      refine Calls.mono (Hid.out c1) ?_; rintro e w' ⟨rfl, hw'⟩; subst w'
      go_wp2_with fail
      refine Calls.mono (Hid.out c2) ?_; rintro e w' ⟨rfl, hw'⟩; subst w'
      go_wp2_with fail
      go_ret
      exact ⟨rfl, rfl⟩
    | true =>
      obtain ⟨N, hN⟩ : ∃ N, min n 1099511627776 = N := ⟨_, rfl⟩
      obtain ⟨A, E, B, q, hA, hE, hB, hq, hct, _, a0, a1, e0, e1, q0, q1, m0, m1, s1⟩ := ct_parts m n s hsl.1 hsl.2 hz N hN
      rw [hct]
      rw [hz] at c2
      have h1 := hsl.1
      have hEn : ¬ E = 0 := by omega
      have hB0 : 1 ≤ B := by omega
      have hB1 : B ≤ 1099511631872 := by omega
      have htd : B.tdiv E = q := by rw [Int.tdiv_eq_ediv_of_nonneg (by omega)]; exact hq
      have s0 : m ≤ s := by omega
      by_cases hc : n ≤ 1099511627776
      · obtain rfl : n = N := by omega
        clear hsl hz hN hct hq
        go_enter Tryd.func14, Tryd.ntmps14
        go_wp2_with fail
        refine Calls.mono (Hid.out c1) ?_; rintro e w' ⟨rfl, hw'⟩; subst w'
        go_wp2_with fail
        refine Calls.mono (Hid.out c2) ?_; rintro e w' ⟨rfl, hw'⟩; subst w'
        go_wp2_with fail
        go_ret
        exact ⟨rfl, rfl⟩
      · obtain rfl : N = 1099511627776 := by omega
        have hc' : 1099511627776 < n := by omega
        clear hsl hz hN hct hq hc
        go_enter Tryd.func14, Tryd.ntmps14
        go_wp2_with fail
        refine Calls.mono (Hid.out c1) ?_; rintro e w' ⟨rfl, hw'⟩; subst w'
        go_wp2_with fail
        refine Calls.mono (Hid.out c2) ?_; rintro e w' ⟨rfl, hw'⟩; subst w'
        go_wp2_with fail
        go_ret
        exact ⟨rfl, rfl⟩
  · rw [ct_no (fun h => hsl h.1)]
    have c1 : Hid _ := slides_no m n (by omega) w
    clear hsl
    go_enter Tryd.func14, Tryd.ntmps14
    go_wp2_with fail
    refine Calls.mono (Hid.out c1) ?_; rintro e w' ⟨rfl, hw'⟩; subst w'
    go_wp2_with fail
    go_ret
    exact ⟨rfl, rfl⟩

set_option maxHeartbeats 400000 in
theorem refCount_any (m n s : Int) (w : World) : Calls Tryd.prog 15 #[.int .i64 m, .int .i64 n, .int .i64 s] w fun e w' => e = .returned (.int .i64 (ct m n s)) ∧ w' = w := by
  obtain ⟨N, hN⟩ : ∃ N, min n 1099511627776 = N := ⟨_, rfl⟩
  have hcs : (n ≤ 1099511627776 ∧ n = N) ∨ (1099511627776 < n ∧ N = 1099511627776) := by omega
  by_cases hsl : 1 ≤ m ∧ m ≤ N
  · have c1 : Hid _ := refSlides_yes m N hsl.1 hsl.2 w
    have c2 : Hid _ := sized_any m s w
    cases hz : szb m s with
    | false =>
      rw [ct_no (by rw [hz]; simp)]
      rw [hz] at c2
      clear hsl hz hN
      rcases hcs with ⟨hc, rfl⟩ | ⟨hc, rfl⟩
      · go_enter Tryd.func15, Tryd.ntmps15
        go_wp2_with fail
        refine Calls.mono (Hid.out c1) ?_; rintro e w' ⟨rfl, hw'⟩; subst w'
        go_wp2_with fail
        refine Calls.mono (Hid.out c2) ?_; rintro e w' ⟨rfl, hw'⟩; subst w'
        go_wp2_with fail
        go_ret
        exact ⟨rfl, rfl⟩
      · go_enter Tryd.func15, Tryd.ntmps15
        go_wp2_with fail
        refine Calls.mono (Hid.out c1) ?_; rintro e w' ⟨rfl, hw'⟩; subst w'
        go_wp2_with fail
        refine Calls.mono (Hid.out c2) ?_; rintro e w' ⟨rfl, hw'⟩; subst w'
        go_wp2_with fail
        go_ret
        exact ⟨rfl, rfl⟩
    | true =>
      obtain ⟨A, E, B, q, hA, hE, _, _, hct, hq, a0, a1, e0, e1, q0, q1, m0, m1, s1⟩ := ct_parts m n s hsl.1 (by omega) hz N hN
      rw [hct]
      rw [hz] at c2
      have h1 := hsl.1
      have hEn : ¬ E = 0 := by omega
      have s0 : m ≤ s := by omega
      obtain ⟨D, hD⟩ : ∃ D, A / E = D := ⟨_, rfl⟩
      obtain ⟨R, hR⟩ : ∃ R, A % E = R := ⟨_, rfl⟩
      rw [hD, hR] at hq
      have htd : A.tdiv E = D := by rw [Int.tdiv_eq_ediv_of_nonneg (by omega)]; exact hD
      have htm : A.tmod E = R := by rw [Int.tmod_eq_emod_of_nonneg (by omega)]; exact hR
      have d0 : 0 ≤ D := by rw [← hD]; exact Int.ediv_nonneg (by omega) (by omega)
      clear hsl hz hN hct
      by_cases hR0 : R = 0
      · rw [if_pos hR0] at hq
        obtain rfl : D = q := by omega
        subst hR0
        clear hD hR hq
        rcases hcs with ⟨hc, rfl⟩ | ⟨hc, rfl⟩
        · go_enter Tryd.func15, Tryd.ntmps15
          go_wp2_with fail
          refine Calls.mono (Hid.out c1) ?_; rintro e w' ⟨rfl, hw'⟩; subst w'
          go_wp2_with fail
          refine Calls.mono (Hid.out c2) ?_; rintro e w' ⟨rfl, hw'⟩; subst w'
          go_wp2_with fail
          go_ret
          exact ⟨rfl, rfl⟩
        · go_enter Tryd.func15, Tryd.ntmps15
          go_wp2_with fail
          refine Calls.mono (Hid.out c1) ?_; rintro e w' ⟨rfl, hw'⟩; subst w'
          go_wp2_with fail
          refine Calls.mono (Hid.out c2) ?_; rintro e w' ⟨rfl, hw'⟩; subst w'
          go_wp2_with fail
          go_ret
          exact ⟨rfl, rfl⟩
      · rw [if_neg hR0] at hq
        have hbn : (R != 0) = true := bne_iff_ne.2 hR0
        have HQ : Hid (D + 1 = q) := hq
        have d1 : D ≤ 1099511627776 := by omega
        clear hD hR hq
        rcases hcs with ⟨hc, rfl⟩ | ⟨hc, rfl⟩
        · go_enter Tryd.func15, Tryd.ntmps15
          go_wp2_with fail
          refine Calls.mono (Hid.out c1) ?_; rintro e w' ⟨rfl, hw'⟩; subst w'
          go_wp2_with fail
          refine Calls.mono (Hid.out c2) ?_; rintro e w' ⟨rfl, hw'⟩; subst w'
          go_wp2_with fail
          go_ret
          exact ⟨ret_i (by rw [← HQ.out]), rfl⟩
        · go_enter Tryd.func15, Tryd.ntmps15
          go_wp2_with fail
          refine Calls.mono (Hid.out c1) ?_; rintro e w' ⟨rfl, hw'⟩; subst w'
          go_wp2_with fail
          refine Calls.mono (Hid.out c2) ?_; rintro e w' ⟨rfl, hw'⟩; subst w'
          go_wp2_with fail
          go_ret
          exact ⟨ret_i (by rw [← HQ.out]), rfl⟩
  · rw [ct_no (fun h => by obtain ⟨l, hl, hs, hms⟩ := szb_yes h.2; have := pow_bd l hl; omega)]
    have c1 : Hid _ := refSlides_no m N (by omega) w
    clear hsl hN
    rcases hcs with ⟨hc, rfl⟩ | ⟨hc, rfl⟩
    · go_enter Tryd.func15, Tryd.ntmps15
      go_wp2_with fail
      refine Calls.mono (Hid.out c1) ?_; rintro e w' ⟨rfl, hw'⟩; subst w'
      go_wp2_with fail
      go_ret
      exact ⟨rfl, rfl⟩
    · go_enter Tryd.func15, Tryd.ntmps15
      go_wp2_with fail
      refine Calls.mono (Hid.out c1) ?_; rintro e w' ⟨rfl, hw'⟩; subst w'
      go_wp2_with fail
      go_ret
      exact ⟨rfl, rfl⟩

end Go.Proofs.YtdffofpoilfhiaaDoor
