/- Contracts of block.slides, block.holds and of the document's own slides, sized. Contracts of block.tooBig, block.Check and of the document's own Check, of any rows and any size. Contracts of block.Count and of the document's own Count, of any numbers. Contracts of block.Fit and of the document's own Fit, of any numbers. Contracts of block.widened and of slices.Reverse, of rows that are not empty. Three rows in an array: contracts of block.forward, block.cyclic and block.joined. Contracts of block.cyclic and block.joined. Contracts of block.joined and of block.blocks. The blocks, one by one: what the function that gives them hands over. Contract of block.Correlate, of any rows and any size. Contracts of block.Correlate and of the document's, of any rows and any size: all outcomes at once. -/
import Derived.Test.YtlogdjhnhnfbkaaDoorBlkMath
import Derived.Test.YtlogdjhnhnfbkaaDoorNttLog
import Derived.Test.YtlogdjhnhnfbkaaDoorConvA
import Derived.Test.YtlogdjhnhnfbkaaDoorNttA
import Derived.Deep.RegionHeld3
import Derived.RangeFuncBox
import Derived.Test.YtlogdjhnhnfbkaaDoorRound
import Derived.Test.YtlogdjhnhnfbkaaDoorProg
import Derived.RangeFuncBound
import Derived.Shelf.Abstract
import Derived.Shelf.RegionOpen
import Derived.WalkKit
import Derived.TacticsInMore
import Derived.LoopNIn
import Derived.LoopIn
import Derived.Sort.CutIn
import Derived.Test.YtlogdjhnhnfbkaaDoorConvLaw

namespace Go.Proofs.YtlogdjhnhnfbkaaDoor
open Go.RowKit Res

set_option maxHeartbeats 400000 in
theorem slides_yes (m n : Int) (h1 : 1 ≤ m) (h2 : m ≤ n) (w : World) : Calls Tryd.prog 66 #[.int .i64 m, .int .i64 n] w fun e w' => e = .returned (.bool true) ∧ w' = w := by
  have d1 : decide (1 ≤ m) = true := decide_eq_true h1
  have d2 : decide (m ≤ n) = true := decide_eq_true h2
  go_enter Tryd.func66, Tryd.ntmps66
  go_wp2_with fail
  go_ret
  exact ⟨rfl, rfl⟩

set_option maxHeartbeats 400000 in
theorem slides_no (m n : Int) (h : m < 1 ∨ n < m) (w : World) : Calls Tryd.prog 66 #[.int .i64 m, .int .i64 n] w fun e w' => e = .returned (.bool false) ∧ w' = w := by
  by_cases h1 : 1 ≤ m
  · have d1 : decide (1 ≤ m) = true := decide_eq_true h1
    have d2 : decide (m ≤ n) = false := decide_eq_false (by omega)
    clear h h1
    go_enter Tryd.func66, Tryd.ntmps66
    go_wp2_with fail
    go_ret
    exact ⟨rfl, rfl⟩
  · have d1 : decide (1 ≤ m) = false := decide_eq_false h1
    clear h h1
    go_enter Tryd.func66, Tryd.ntmps66
    go_wp2_with fail
    go_ret
    exact ⟨rfl, rfl⟩

set_option maxHeartbeats 400000 in
theorem refSlides_yes (m n : Int) (h1 : 1 ≤ m) (h2 : m ≤ n) (w : World) : Calls Tryd.prog 59 #[.int .i64 m, .int .i64 n] w fun e w' => e = .returned (.bool true) ∧ w' = w := by
  have d1 : decide (1 ≤ m) = true := decide_eq_true h1
  have d2 : decide (m ≤ n) = true := decide_eq_true h2
  go_enter Tryd.func59, Tryd.ntmps59
  go_wp2_with fail
  go_ret
  exact ⟨rfl, rfl⟩

set_option maxHeartbeats 400000 in
theorem refSlides_no (m n : Int) (h : m < 1 ∨ n < m) (w : World) : Calls Tryd.prog 59 #[.int .i64 m, .int .i64 n] w fun e w' => e = .returned (.bool false) ∧ w' = w := by
  by_cases h1 : 1 ≤ m
  · have d1 : decide (1 ≤ m) = true := decide_eq_true h1
    have d2 : decide (m ≤ n) = false := decide_eq_false (by omega)
    clear h h1
    go_enter Tryd.func59, Tryd.ntmps59
    go_wp2_with fail
    go_ret
    exact ⟨rfl, rfl⟩
  · have d1 : decide (1 ≤ m) = false := decide_eq_false h1
    clear h h1
    go_enter Tryd.func59, Tryd.ntmps59
    go_wp2_with fail
    go_ret
    exact ⟨rfl, rfl⟩

set_option maxHeartbeats 400000 in
theorem holds_any (m s : Int) (w : World) : Calls Tryd.prog 67 #[.int .i64 s, .int .i64 m] w fun e w' => e = .returned (.bool (szb m s)) ∧ w' = w := by
  cases hz : szb m s with
  | true =>
    obtain ⟨l, hl, hs, hm⟩ := szb_yes hz
    have c1 : Hid _ := log_yes s l hl hs w
    have d2 : decide (m ≤ s) = true := decide_eq_true hm
    clear hz hs
    go_enter Tryd.func67, Tryd.ntmps67
    go_wp2_with fail
    refine Calls.mono (Hid.out c1) ?_; rintro e w' ⟨rfl, hw'⟩; subst w'
    go_wp2_with fail
    go_ret
    exact ⟨rfl, rfl⟩
  | false =>
    rcases szb_no hz with h | ⟨⟨l, hl, hs⟩, hm⟩
    · have c1 : Hid _ := log_no s h w
      clear hz h
      go_enter Tryd.func67, Tryd.ntmps67
      go_wp2_with fail
      refine Calls.mono (Hid.out c1) ?_; rintro e w' ⟨rfl, hw'⟩; subst w'
      go_wp2_with fail
      go_ret
      exact ⟨rfl, rfl⟩
    · have c1 : Hid _ := log_yes s l hl hs w
      have d2 : decide (m ≤ s) = false := decide_eq_false (by omega)
      clear hz hs
      go_enter Tryd.func67, Tryd.ntmps67
      go_wp2_with fail
      refine Calls.mono (Hid.out c1) ?_; rintro e w' ⟨rfl, hw'⟩; subst w'
      go_wp2_with fail
      go_ret
      exact ⟨rfl, rfl⟩

set_option maxHeartbeats 400000 in
theorem sized_any (m s : Int) (w : World) : Calls Tryd.prog 60 #[.int .i64 m, .int .i64 s] w fun e w' => e = .returned (.bool (szb m s)) ∧ w' = w := by
  cases hz : szb m s with
  | true =>
    obtain ⟨l, hl, hs, hm⟩ := szb_yes hz
    have c1 : Hid _ := refLog_yes s l hl hs w
    have d2 : decide (m ≤ s) = true := decide_eq_true hm
    clear hz hs
    go_enter Tryd.func60, Tryd.ntmps60
    go_wp2_with fail
    refine Calls.mono (Hid.out c1) ?_; rintro e w' ⟨rfl, hw'⟩; subst w'
    go_wp2_with fail
    go_ret
    exact ⟨rfl, rfl⟩
  | false =>
    rcases szb_no hz with h | ⟨⟨l, hl, hs⟩, hm⟩
    · have c1 : Hid _ := refLog_no s h w
      clear hz h
      go_enter Tryd.func60, Tryd.ntmps60
      go_wp2_with fail
      refine Calls.mono (Hid.out c1) ?_; rintro e w' ⟨rfl, hw'⟩; subst w'
      go_wp2_with fail
      go_ret
      exact ⟨rfl, rfl⟩
    · have c1 : Hid _ := refLog_yes s l hl hs w
      have d2 : decide (m ≤ s) = false := decide_eq_false (by omega)
      clear hz hs
      go_enter Tryd.func60, Tryd.ntmps60
      go_wp2_with fail
      refine Calls.mono (Hid.out c1) ?_; rintro e w' ⟨rfl, hw'⟩; subst w'
      go_wp2_with fail
      go_ret
      exact ⟨rfl, rfl⟩

end Go.Proofs.YtlogdjhnhnfbkaaDoor

namespace Go.Proofs.YtlogdjhnhnfbkaaDoor
open Go.RowKit Res

set_option maxHeartbeats 1000000 in
theorem tooBig_any (ao bo : Option Addr) (n m ca cb : Nat) (h1 : 1 ≤ n) (hn : n ≤ 1152921504606846976) (hm : m ≤ 1152921504606846976) (A B : Nat → Int) (hA : ∀ t, A t ≤ 18446744073709551615) (hB : ∀ t, B t ≤ 18446744073709551615) (w : World) (la : Lies w ao n A) (lb : Lies w bo m B) :
    Calls Tryd.prog 86 #[.slice ao n ca, .slice bo m cb] w fun e w' => e = .returned (.bool (decide (18446744073709551616 ≤ gr n A * gr m B * (n : Int)))) ∧ w' = w := by
  have c1 : Hid _ := greatest_any ao n ca hn A w la
  have c2 : Hid _ := greatest_any bo m cb hm B w lb
  have hX0 : 0 ≤ gr n A := gr_nonneg _ _
  have hY0 : 0 ≤ gr m B := gr_nonneg _ _
  have hX1 : gr n A ≤ 18446744073709551615 := gr_hi (by omega) hA n
  have hY1 : gr m B ≤ 18446744073709551615 := gr_hi (by omega) hB m
  clear la lb hA hB
  generalize gr n A = X at *
  generalize gr m B = Y at *
  obtain ⟨H, hH⟩ : ∃ H, H = X * Y / 18446744073709551616 := ⟨_, rfl⟩
  obtain ⟨l, hl⟩ : ∃ l, l = X * Y % 18446744073709551616 := ⟨_, rfl⟩
  obtain ⟨O, hO⟩ : ∃ O, O = l * (n : Int) / 18446744073709551616 := ⟨_, rfl⟩
  obtain ⟨p, hp⟩ : ∃ p, p = l * (n : Int) % 18446744073709551616 := ⟨_, rfl⟩
  have c3 : Hid _ := mul64_any X Y hX0 hY0 (by omega) (by omega) w
  rw [← hH, ← hl] at c3
  have hl0 : 0 ≤ l := by omega
  have hl1 : l < 18446744073709551616 := by omega
  have c4 : Hid _ := mul64_any l n hl0 (by omega) hl1 (by omega) w
  rw [← hO, ← hp] at c4
  have hiff := halves_big (P := X * Y) (k := (n : Int)) (Int.mul_nonneg hX0 hY0) (by omega)
  rw [← hH, ← hl, ← hO] at hiff
  by_cases hbig : 18446744073709551616 ≤ X * Y * (n : Int)
  · rw [decide_eq_true hbig]
    clear hH hl hO hp
    by_cases hH0 : H = 0
    · have hO0 : (O != 0) = true := bne_iff_ne.2 fun e => hiff.1 ⟨hH0, e⟩ hbig
      clear hiff hbig
      subst hH0
      go_enter Tryd.func86, Tryd.ntmps86
      go_wp2_with fail
      refine Calls.mono (Hid.out c1) ?_; rintro e w' ⟨rfl, hw'⟩; subst w'
      go_wp2_with fail
      refine Calls.mono (Hid.out c2) ?_; rintro e w' ⟨rfl, hw'⟩; subst w'
      go_wp2_with fail
      refine Calls.mono (Hid.out c3) ?_; rintro e w' ⟨rfl, hw'⟩; subst w'
      go_wp2_with fail
      refine Calls.mono (Hid.out c4) ?_; rintro e w' ⟨rfl, hw'⟩; subst w'
      go_wp2_with fail
      go_ret
      exact ⟨rfl, rfl⟩
    · have hH0' : (H != 0) = true := bne_iff_ne.2 hH0
      clear hiff hbig
      go_enter Tryd.func86, Tryd.ntmps86
      go_wp2_with fail
      refine Calls.mono (Hid.out c1) ?_; rintro e w' ⟨rfl, hw'⟩; subst w'
      go_wp2_with fail
      refine Calls.mono (Hid.out c2) ?_; rintro e w' ⟨rfl, hw'⟩; subst w'
      go_wp2_with fail
      refine Calls.mono (Hid.out c3) ?_; rintro e w' ⟨rfl, hw'⟩; subst w'
      go_wp2_with fail
      refine Calls.mono (Hid.out c4) ?_; rintro e w' ⟨rfl, hw'⟩; subst w'
      go_wp2_with fail
      go_ret
      exact ⟨rfl, rfl⟩
  · rw [decide_eq_false hbig]
    obtain ⟨hH0, hO0⟩ := hiff.2 hbig
    clear hH hl hO hp
    clear hiff hbig
    subst hH0 hO0
    go_enter Tryd.func86, Tryd.ntmps86
    go_wp2_with fail
    refine Calls.mono (Hid.out c1) ?_; rintro e w' ⟨rfl, hw'⟩; subst w'
    go_wp2_with fail
    refine Calls.mono (Hid.out c2) ?_; rintro e w' ⟨rfl, hw'⟩; subst w'
    go_wp2_with fail
    refine Calls.mono (Hid.out c3) ?_; rintro e w' ⟨rfl, hw'⟩; subst w'
    go_wp2_with fail
    refine Calls.mono (Hid.out c4) ?_; rintro e w' ⟨rfl, hw'⟩; subst w'
    go_wp2_with fail
    go_ret
    exact ⟨rfl, rfl⟩

set_option maxHeartbeats 400000 in
theorem bcheck_any (ao bo : Option Addr) (n m ca cb : Nat) (s : Int) (hn : n ≤ 1152921504606846976) (hm : m ≤ 1152921504606846976) (A B : Nat → Int) (hA : ∀ t, A t ≤ 18446744073709551615) (hB : ∀ t, B t ≤ 18446744073709551615) (w : World) (la : Lies w ao n A) (lb : Lies w bo m B) :
    Calls Tryd.prog 72 #[.slice ao n ca, .slice bo m cb, .int .i64 s] w fun e w' => e = .returned (.int .i64 (bc n m A B s)) ∧ w' = w := by
  by_cases hno : n = 0 ∨ m < n
  · rw [bc_none hno]
    have c1 : Hid _ := slides_no n m (by omega) w
    clear la lb hno
    go_enter Tryd.func72, Tryd.ntmps72
    go_wp2_with fail
    refine Calls.mono (Hid.out c1) ?_; rintro e w' ⟨rfl, hw'⟩; subst w'
    go_wp2_with fail
    go_ret
    exact ⟨rfl, rfl⟩
  have c1 : Hid _ := slides_yes n m (by omega) (by omega) w
  have c2 : Hid _ := holds_any n s w
  have c3 : Hid _ := tooBig_any ao bo n m ca cb (by omega) hn hm A B hA hB w la lb
  cases hz : szb n s with
  | false =>
    rw [bc_size hno hz]
    rw [hz] at c2
    clear la lb hno c3
    go_enter Tryd.func72, Tryd.ntmps72
    go_wp2_with fail
    refine Calls.mono (Hid.out c1) ?_; rintro e w' ⟨rfl, hw'⟩; subst w'
    go_wp2_with fail
    refine Calls.mono (Hid.out c2) ?_; rintro e w' ⟨rfl, hw'⟩; subst w'
    go_wp2_with fail
    go_ret
    exact ⟨rfl, rfl⟩
  | true =>
    rw [hz] at c2
    by_cases hbig : 18446744073709551616 ≤ gr n A * gr m B * (n : Int)
    · rw [bc_big hno hz hbig]
      rw [decide_eq_true hbig] at c3
      clear la lb hno hbig
      go_enter Tryd.func72, Tryd.ntmps72
      go_wp2_with fail
      refine Calls.mono (Hid.out c1) ?_; rintro e w' ⟨rfl, hw'⟩; subst w'
      go_wp2_with fail
      refine Calls.mono (Hid.out c2) ?_; rintro e w' ⟨rfl, hw'⟩; subst w'
      go_wp2_with fail
      refine Calls.mono (Hid.out c3) ?_; rintro e w' ⟨rfl, hw'⟩; subst w'
      go_wp2_with fail
      go_ret
      exact ⟨rfl, rfl⟩
    · rw [bc_ok hno hz hbig]
      rw [decide_eq_false hbig] at c3
      clear la lb hno hbig
      go_enter Tryd.func72, Tryd.ntmps72
      go_wp2_with fail
      refine Calls.mono (Hid.out c1) ?_; rintro e w' ⟨rfl, hw'⟩; subst w'
      go_wp2_with fail
      refine Calls.mono (Hid.out c2) ?_; rintro e w' ⟨rfl, hw'⟩; subst w'
      go_wp2_with fail
      refine Calls.mono (Hid.out c3) ?_; rintro e w' ⟨rfl, hw'⟩; subst w'
      go_wp2_with fail
      go_ret
      exact ⟨rfl, rfl⟩

end Go.Proofs.YtlogdjhnhnfbkaaDoor

namespace Go.Proofs.YtlogdjhnhnfbkaaDoor
open Go.RowKit Res

theorem ret_i {a b : Int} (h : a = b) : Ending.returned (.int .i64 a) = .returned (.int .i64 b) := by rw [h]
/-- The numbers of a count, by letters. -/
theorem ct_parts (m n s : Int) (h1 : 1 ≤ m) (h2 : m ≤ n) (hz : szb m s = true) (N : Int) (hN : min n 1099511627776 = N) : ∃ A E B q, N - m + 1 = A ∧ s - m + 1 = E ∧ A + E - 1 = B ∧ B / E = q ∧ ct m n s = 3 + 6 * q ∧ A / E + (if A % E = 0 then 0 else 1) = q ∧ 1 ≤ A ∧ A ≤ 1099511627776 ∧ 1 ≤ E ∧ E ≤ 4096 ∧ 1 ≤ q ∧ q ≤ 1099511627776 ∧ m ≤ N ∧ m ≤ 4096 ∧ s ≤ 4096 := by
  obtain ⟨l, hl, hs, hms⟩ := szb_yes hz
  have hb := pow_bd l hl
  rw [← hs] at hb
  refine ⟨_, _, _, _, rfl, rfl, rfl, rfl, by rw [ct_yes h1 h2 hz, hN], (ceil_div (by omega)).symm, by omega, by omega, by omega, by omega, ?_, ?_, by omega, by omega, by omega⟩
  · have := ct_ge m n s
    rw [ct_yes h1 h2 hz, hN] at this
    omega
  · have := ct_ge m n s
    rw [ct_yes h1 h2 hz, hN] at this
    omega

set_option maxHeartbeats 400000 in
theorem count_any (m n s : Int) (w : World) : Calls Tryd.prog 53 #[.int .i64 m, .int .i64 n, .int .i64 s] w fun e w' => e = .returned (.int .i64 (ct m n s)) ∧ w' = w := by
  by_cases hsl : 1 ≤ m ∧ m ≤ n
  · have c1 : Hid _ := slides_yes m n hsl.1 hsl.2 w
    have c2 : Hid _ := holds_any m s w
    cases hz : szb m s with
    | false =>
      rw [ct_no (by rw [hz]; simp)]
      rw [hz] at c2
      clear hsl hz
      go_enter Tryd.func53, Tryd.ntmps53
      go_wp2_with fail
      refine Calls.mono (Hid.out c1) ?_; rintro e w' ⟨rfl, hw'⟩; subst w'
      go_wp2_with fail
      refine Calls.mono (Hid.out c2) ?_; rintro e w' ⟨rfl, hw'⟩; subst w'
      go_wp2_with fail
      go_ret
      exact ⟨rfl, rfl⟩
    | true =>
      obtain ⟨N, hN⟩ : ∃ N, min n 1099511627776 = N := ⟨_, rfl⟩
      obtain ⟨A, E, B, q, hA, hE, hB, hq, hct, _, a0, a1, e0, e1, q0, q1, m0, m1, s1⟩ := ct_parts m n s hsl.1 hsl.2 hz N hN
      rw [hct]
      rw [hz] at c2
      have h1 := hsl.1
      have hEn : ¬ E = 0 := by omega
      have hB0 : 1 ≤ B := by omega
      have hB1 : B ≤ 1099511631872 := by omega
      have htd : B.tdiv E = q := by rw [Int.tdiv_eq_ediv_of_nonneg (by omega)]; exact hq
      have s0 : m ≤ s := by omega
      by_cases hc : n ≤ 1099511627776
      · obtain rfl : n = N := by omega
        clear hsl hz hN hct hq
        go_enter Tryd.func53, Tryd.ntmps53
        go_wp2_with fail
        refine Calls.mono (Hid.out c1) ?_; rintro e w' ⟨rfl, hw'⟩; subst w'
        go_wp2_with fail
        refine Calls.mono (Hid.out c2) ?_; rintro e w' ⟨rfl, hw'⟩; subst w'
        go_wp2_with fail
        go_ret
        exact ⟨rfl, rfl⟩
      · obtain rfl : N = 1099511627776 := by omega
        have hc' : 1099511627776 < n := by omega
        clear hsl hz hN hct hq hc
        go_enter Tryd.func53, Tryd.ntmps53
        go_wp2_with fail
        refine Calls.mono (Hid.out c1) ?_; rintro e w' ⟨rfl, hw'⟩; subst w'
        go_wp2_with fail
        refine Calls.mono (Hid.out c2) ?_; rintro e w' ⟨rfl, hw'⟩; subst w'
        go_wp2_with fail
        go_ret
        exact ⟨rfl, rfl⟩
  · rw [ct_no (fun h => hsl h.1)]
    have c1 : Hid _ := slides_no m n (by omega) w
    clear hsl
    go_enter Tryd.func53, Tryd.ntmps53
    go_wp2_with fail
    refine Calls.mono (Hid.out c1) ?_; rintro e w' ⟨rfl, hw'⟩; subst w'
    go_wp2_with fail
    go_ret
    exact ⟨rfl, rfl⟩

set_option maxHeartbeats 400000 in
theorem refCount_any (m n s : Int) (w : World) : Calls Tryd.prog 41 #[.int .i64 m, .int .i64 n, .int .i64 s] w fun e w' => e = .returned (.int .i64 (ct m n s)) ∧ w' = w := by
  obtain ⟨N, hN⟩ : ∃ N, min n 1099511627776 = N := ⟨_, rfl⟩
  have hcs : (n ≤ 1099511627776 ∧ n = N) ∨ (1099511627776 < n ∧ N = 1099511627776) := by omega
  by_cases hsl : 1 ≤ m ∧ m ≤ N
  · have c1 : Hid _ := refSlides_yes m N hsl.1 hsl.2 w
    have c2 : Hid _ := sized_any m s w
    cases hz : szb m s with
    | false =>
      rw [ct_no (by rw [hz]; simp)]
      rw [hz] at c2
      clear hsl hz hN
      rcases hcs with ⟨hc, rfl⟩ | ⟨hc, rfl⟩
      · go_enter Tryd.func41, Tryd.ntmps41
        go_wp2_with fail
        refine Calls.mono (Hid.out c1) ?_; rintro e w' ⟨rfl, hw'⟩; subst w'
        go_wp2_with fail
        refine Calls.mono (Hid.out c2) ?_; rintro e w' ⟨rfl, hw'⟩; subst w'
        go_wp2_with fail
        go_ret
        exact ⟨rfl, rfl⟩
      · go_enter Tryd.func41, Tryd.ntmps41
        go_wp2_with fail
        refine Calls.mono (Hid.out c1) ?_; rintro e w' ⟨rfl, hw'⟩; subst w'
        go_wp2_with fail
        refine Calls.mono (Hid.out c2) ?_; rintro e w' ⟨rfl, hw'⟩; subst w'
        go_wp2_with fail
        go_ret
        exact ⟨rfl, rfl⟩
    | true =>
      obtain ⟨A, E, B, q, hA, hE, _, _, hct, hq, a0, a1, e0, e1, q0, q1, m0, m1, s1⟩ := ct_parts m n s hsl.1 (by omega) hz N hN
      rw [hct]
      rw [hz] at c2
      have h1 := hsl.1
      have hEn : ¬ E = 0 := by omega
      have s0 : m ≤ s := by omega
      obtain ⟨D, hD⟩ : ∃ D, A / E = D := ⟨_, rfl⟩
      obtain ⟨R, hR⟩ : ∃ R, A % E = R := ⟨_, rfl⟩
      rw [hD, hR] at hq
      have htd : A.tdiv E = D := by rw [Int.tdiv_eq_ediv_of_nonneg (by omega)]; exact hD
      have htm : A.tmod E = R := by rw [Int.tmod_eq_emod_of_nonneg (by omega)]; exact hR
      have d0 : 0 ≤ D := by rw [← hD]; exact Int.ediv_nonneg (by omega) (by omega)
      clear hsl hz hN hct
      by_cases hR0 : R = 0
      · rw [if_pos hR0] at hq
        obtain rfl : D = q := by omega
        subst hR0
        clear hD hR hq
        rcases hcs with ⟨hc, rfl⟩ | ⟨hc, rfl⟩
        · go_enter Tryd.func41, Tryd.ntmps41
          go_wp2_with fail
          refine Calls.mono (Hid.out c1) ?_; rintro e w' ⟨rfl, hw'⟩; subst w'
          go_wp2_with fail
          refine Calls.mono (Hid.out c2) ?_; rintro e w' ⟨rfl, hw'⟩; subst w'
          go_wp2_with fail
          go_ret
          exact ⟨rfl, rfl⟩
        · go_enter Tryd.func41, Tryd.ntmps41
          go_wp2_with fail
          refine Calls.mono (Hid.out c1) ?_; rintro e w' ⟨rfl, hw'⟩; subst w'
          go_wp2_with fail
          refine Calls.mono (Hid.out c2) ?_; rintro e w' ⟨rfl, hw'⟩; subst w'
          go_wp2_with fail
          go_ret
          exact ⟨rfl, rfl⟩
      · rw [if_neg hR0] at hq
        have hbn : (R != 0) = true := bne_iff_ne.2 hR0
        have HQ : Hid (D + 1 = q) := hq
        have d1 : D ≤ 1099511627776 := by omega
        clear hD hR hq
        rcases hcs with ⟨hc, rfl⟩ | ⟨hc, rfl⟩
        · go_enter Tryd.func41, Tryd.ntmps41
          go_wp2_with fail
          refine Calls.mono (Hid.out c1) ?_; rintro e w' ⟨rfl, hw'⟩; subst w'
          go_wp2_with fail
          refine Calls.mono (Hid.out c2) ?_; rintro e w' ⟨rfl, hw'⟩; subst w'
          go_wp2_with fail
          go_ret
          exact ⟨ret_i (by rw [← HQ.out]), rfl⟩
        · go_enter Tryd.func41, Tryd.ntmps41
          go_wp2_with fail
          refine Calls.mono (Hid.out c1) ?_; rintro e w' ⟨rfl, hw'⟩; subst w'
          go_wp2_with fail
          refine Calls.mono (Hid.out c2) ?_; rintro e w' ⟨rfl, hw'⟩; subst w'
          go_wp2_with fail
          go_ret
          exact ⟨ret_i (by rw [← HQ.out]), rfl⟩
  · rw [ct_no (fun h => by obtain ⟨l, hl, hs, hms⟩ := szb_yes h.2; have := pow_bd l hl; omega)]
    have c1 : Hid _ := refSlides_no m N (by omega) w
    clear hsl hN
    rcases hcs with ⟨hc, rfl⟩ | ⟨hc, rfl⟩
    · go_enter Tryd.func41, Tryd.ntmps41
      go_wp2_with fail
      refine Calls.mono (Hid.out c1) ?_; rintro e w' ⟨rfl, hw'⟩; subst w'
      go_wp2_with fail
      go_ret
      exact ⟨rfl, rfl⟩
    · go_enter Tryd.func41, Tryd.ntmps41
      go_wp2_with fail
      refine Calls.mono (Hid.out c1) ?_; rintro e w' ⟨rfl, hw'⟩; subst w'
      go_wp2_with fail
      go_ret
      exact ⟨rfl, rfl⟩

end Go.Proofs.YtlogdjhnhnfbkaaDoor

namespace Go.Proofs.YtlogdjhnhnfbkaaDoor
open Go.RowKit Res

/-- The cost of a size, by letters. -/
theorem cost_parts (m n : Int) (k : Nat) (hk : k ≤ 12) : ∃ p q c, (2 : Int) ^ k = p ∧ ct m n p * p = q ∧ q * ((k : Int) + 1) = c ∧ cost m n k = c ∧ 1 ≤ p ∧ p ≤ 4096 ∧ 0 ≤ ct m n p ∧ ct m n p ≤ 6597069766659 ∧ 0 ≤ q ∧ q ≤ 27021597764235264 ∧ 0 ≤ c ∧ c ≤ 351280770935058432 := by
  refine ⟨_, _, _, rfl, rfl, rfl, rfl, (pow_bd k hk).1, (pow_bd k hk).2, ?_, ?_, ?_, ?_, ?_, ?_⟩
  · have := ct_ge m n (2 ^ k); omega
  · have := ct_ge m n (2 ^ k); omega
  · rcases cost_bd m n k hk with ⟨h, _⟩ | ⟨_, _, h2, h3, _⟩
    · rw [h]; omega
    · omega
  · rcases cost_bd m n k hk with ⟨h, _⟩ | ⟨_, _, h2, h3, _⟩
    · rw [h]; omega
    · omega
  · rcases cost_bd m n k hk with ⟨_, h⟩ | ⟨_, h1, _, _, h2⟩
    · unfold cost at h; omega
    · unfold cost at h1; omega
  · rcases cost_bd m n k hk with ⟨_, h⟩ | ⟨_, h1, _, _, h2⟩
    · unfold cost at h; omega
    · unfold cost at h2; omega

end Go.Proofs.YtlogdjhnhnfbkaaDoor

namespace Go.Proofs.YtlogdjhnhnfbkaaDoor
open Go.RowKit Res

/-- The first numbers of a row laid over zeros. -/
theorem copy_fit (w : World) (b o n c S : Nat) (A : Nat → Int) (hf : Fam w b o n A) :
    ∃ w2, (Builtin.copy_ #[82, 82] 3 #[.slice (some ⟨w.heap.size, 0, none⟩) S S, .slice (some ⟨b, o, none⟩) n c]).run Tryd.prog (w.alloc (.cells (madeCells #[.int .u64 0] S) 49)) = .ok (.int .i64 (min n S : Nat)) w2 ∧ Fam w2 w.heap.size 0 S (pd n A) ∧ Wrt w2 w.heap.size 0 S ∧ Below w.heap.size w w2 ∧ w.heap.size < w2.heap.size := by
  obtain ⟨cu, hb, hnl, hcu⟩ := World.rowIs_made w (.int .u64 0) S 49
  obtain ⟨k, hk⟩ : ∃ k, k = min n S := ⟨_, rfl⟩
  have hlen : (cellsOf A k).length = k := by simp [cellsOf]
  have hr := run_copy_row (P := Tryd.prog) (w.alloc (.cells (madeCells #[.int .u64 0] S) 49)) 82 82 3 49 w.heap.size 0 S S ⟨b, o, none⟩ n c cu 49 (cellsOf A k) Tryd.underlying82 (by kernel_rfl) hb (by rw [hlen]; omega) (cells_at ((hf.head k (by omega)).alloc _)) (by rw [hlen, hnl]; omega) (cells_one A k)
  rw [hlen, hk] at hr
  rw [hk] at hlen
  refine ⟨_, hr, ?_, ?_, ?_, ?_⟩
  · intro t ht
    rw [cell_setRow_same _ _ _ cu _ 49 (0, 0) hb, Nat.zero_add t]
    unfold pd
    have e : ((cu.toList.take 0 ++ cellsOf A (min n S) ++ cu.toList.drop (0 + min n S)).toArray)[t]? = (cellsOf A (min n S) ++ cu.toList.drop (min n S))[t]? := by simp
    rw [e]
    by_cases h2 : t < n
    · rw [List.getElem?_append_left (by omega), if_pos h2]
      have h3 : t < min n S := by omega
      unfold cellsOf
      rw [List.getElem?_map, List.getElem?_range h3]
      rfl
    · rw [List.getElem?_append_right (by omega), if_neg h2, hlen, List.getElem?_drop, show min n S + (t - min n S) = t by omega, Array.getElem?_toList]
      exact hcu t ht
  · intro t _
    unfold World.frozen? World.setRow
    simp only [Array.getElem?_modify, hb, if_true, Option.map_some]
    simp
  · exact below_setRow ((Below.refl _ _).alloc (Nat.le_refl _) _) (Nat.le_refl _) _
  · simp [World.setRow]

set_option maxHeartbeats 400000 in
theorem bwidened_row (b o n c S : Nat) (hle : S ≤ 4096) (A : Nat → Int) (w : World) (hf : Fam w b o n A) :
    Calls Tryd.prog 73 #[.slice (some ⟨b, o, none⟩) n c, .int .i64 S] w fun e w' =>
      e = .returned (.slice (some ⟨w.heap.size, 0, none⟩) S S) ∧ Fam w' w.heap.size 0 S (pd n A) ∧ Wrt w' w.heap.size 0 S ∧ Below w.heap.size w w' ∧ w.heap.size < w'.heap.size := by
  have hmk := run_make_row' (P := Tryd.prog) 82 49 (.int .u64 0) 8 Tryd.underlying82 infoU rfl .i64 .i64 S (by omega) (by omega)
  obtain ⟨w2, hcp, f2, r2, b2, s2⟩ := copy_fit w b o n c S A hf
  have F2 : Hid _ := f2
  have R2 : Hid _ := r2
  have B2 : Hid _ := b2
  have S2 : Hid _ := s2
  clear hf f2 r2 b2 s2
  go_enter Tryd.func73, Tryd.ntmps73
  go_wp2_with fail
  go_ret
  exact ⟨rfl, F2.out, R2.out, B2.out, S2.out⟩

/-- A row whose first i numbers, and whose last i ones, are in each other's place. -/
def rv (n i : Nat) (A : Nat → Int) (t : Nat) : Int := if t < i ∨ n - 1 - i < t then A (n - 1 - t) else A t
structure Rev (w wr : World) (g n i : Nat) (A : Nat → Int) : Prop where
  fam : Fam wr g 0 n (rv n i A)
  wrt : Wrt wr g 0 n
  wrote : Wrote (fun b o => b = g ∧ o < n) w wr
theorem Rev.step {w wr : World} {g n i d : Nat} {A : Nat → Int} (h : Rev w wr g n i A) (hd : d + i + 1 = n) (hid : i < d) {x y : Int} (hx : x = A d) (hy : y = A i) : Rev w ((wr.setCell ⟨g, i, none⟩ (.int .u64 x)).setCell ⟨g, d, none⟩ (.int .u64 y)).drew g n (i + 1) A := by
  refine ⟨Fam.drew (((h.fam.setCell_at (j := i) (by omega) (by omega) x).setCell_at (j := d) (by omega) (by omega) y).congr fun t ht => ?_), (h.wrt.setCell _ _).setCell _ _, ((h.wrote.setCell ⟨rfl, by omega⟩ _).setCell ⟨rfl, by omega⟩ _).drew⟩
  by_cases e : t = d
  · subst e
    rw [upd_at, hy]
    unfold rv
    rw [if_pos (by omega), show n - 1 - t = i by omega]
  · rw [upd_off e]
    by_cases e2 : t = i
    · subst e2
      rw [upd_at, hx]
      unfold rv
      rw [if_pos (by omega), show n - 1 - t = d by omega]
    · rw [upd_off e2]
      unfold rv
      by_cases h3 : t < i ∨ n - 1 - i < t
      · rw [if_pos h3, if_pos (by omega)]
      · rw [if_neg h3, if_neg (by omega)]

set_option maxHeartbeats 1000000 in
theorem reverse_row (g n c : Nat) (h1 : 1 ≤ n) (hle : n ≤ 4096) (A : Nat → Int) (w : World) (hf : Fam w g 0 n A) (hw : Wrt w g 0 n) :
    Calls Tryd.prog 74 #[.slice (some ⟨g, 0, none⟩) n c] w fun e w' =>
      (∃ v, e = .returned v) ∧ Fam w' g 0 n (fun t => A (n - 1 - t)) ∧ Wrote (fun b o => b = g ∧ o < n) w w' := by
  have R0 : Hid (Rev w w g n 0 A) := ⟨hf.congr (fun t ht => by unfold rv; rw [if_neg (by omega)]), hw, Wrote.refl _ _⟩
  obtain ⟨d0, hd0⟩ : ∃ d, d + 1 = n := ⟨n - 1, by omega⟩
  have hdI : (n : Int) - 1 = (d0 : Int) := by omega
  clear hf hw
  go_enter Tryd.func74, Tryd.ntmps74
  go_wp2_with fail
  go_loopw [2, 3] (fun vi vj wr => ∃ i d : Nat, d + i + 1 = n ∧ i ≤ d + 1 ∧ vi = .int .i64 i ∧ vj = .int .i64 d ∧ Rev w wr g n i A) (fun vi vj _ => (intOf vj - intOf vi).toNat)
  case atStart => exact ⟨0, d0, by omega, by omega, rfl, rfl, R0.out⟩
  case round =>
    obtain ⟨i, d, hd, hid, rfl, rfl, hR⟩ := hrel
    have HR : Hid _ := hR
    by_cases hlt : i < d
    · have hci : wr.cell? ⟨g, i, none⟩ = some (.int .u64 (A i)) := by rw [hR.fam.zero i (by omega)]; unfold rv; rw [if_neg (by omega)]
      have hcd : wr.cell? ⟨g, d, none⟩ = some (.int .u64 (A d)) := by rw [hR.fam.zero d (by omega)]; unfold rv; rw [if_neg (by omega)]
      have hfi := hR.wrt.zero i (by omega)
      have hfd := hR.wrt.zero d (by omega)
      have HS : Hid _ := HR.out.step hd hlt (x := A d) (y := A i) rfl rfl
      have hltI : (i : Int) < (d : Int) := by omega
      have hin : (i : Int) < (n : Int) := by omega
      have hdn : (d : Int) < (n : Int) := by omega
      have hne : i ≠ d := by omega
      have hi0 : (0 : Int) ≤ (i : Int) := by omega
      have hd0' : (0 : Int) ≤ (d : Int) := by omega
      obtain ⟨d', hd'⟩ : ∃ d', d' + 1 = d := ⟨d - 1, by omega⟩
      have hdd : (d : Int) - 1 = (d' : Int) := by omega
      clear hR HR
      go_wp2_with fail
      go_region
      all_goals
        go_wp2_with fail
        go_roundw
        case rel => exact ⟨i + 1, d', by omega, by omega, by go_num, rfl, HS.out⟩
        case measure => simp [intOf]; omega
    · have hltI : ¬ (i : Int) < (d : Int) := by omega
      have hF : Fam wr g 0 n (fun t => A (n - 1 - t)) := hR.fam.congr fun t ht => by
        unfold rv
        by_cases h3 : t < i ∨ n - 1 - i < t
        · rw [if_pos h3]
        · rw [if_neg h3, show n - 1 - t = t by omega]
      have HF : Hid _ := hF
      clear hF hR
      go_wp2_with fail
      go_end0
      exact ⟨⟨_, rfl⟩, HF.out, HR.out.wrote⟩

end Go.Proofs.YtlogdjhnhnfbkaaDoor

namespace Go.Proofs.YtlogdjhnhnfbkaaDoor
open Go.RowKit Res

/-- Three rows of S numbers: where they lie, and what they hold. -/
def Trio (w : World) (G : Nat → Nat) (S : Nat) (F : Nat → Nat → Int) : Prop := ∀ k, k < 3 → Fam w (G k) 0 S (F k) ∧ G k < w.heap.size
theorem Trio.below {B : Nat} {w w' : World} {G : Nat → Nat} {S : Nat} {F : Nat → Nat → Int} (h : Trio w G S F) (hb : Below B w w') (hB : w.heap.size ≤ B) : Trio w' G S F :=
  fun k hk => ⟨(h k hk).1.below hb (Nat.lt_of_lt_of_le (h k hk).2 hB), Nat.lt_of_lt_of_le (h k hk).2 hb.size⟩
/-- Three slices in a box. -/
structure BoxR (w v : World) (G : Nat → Nat) (S : Nat) (ty : TypeId) : Prop where
  eq : v = w.alloc (.cells #[.slice (some ⟨G 0, 0, none⟩) S S, .slice (some ⟨G 1, 0, none⟩) S S, .slice (some ⟨G 2, 0, none⟩) S S] ty)
  cell : ∀ k, k < 3 → v.cell? ⟨w.heap.size, k, none⟩ = some (.slice (some ⟨G k, 0, none⟩) S S)
  wrt : Wrt v w.heap.size 0 3
  bel : Below w.heap.size w v
  size : v.heap.size = w.heap.size + 1
theorem boxR (w : World) (G : Nat → Nat) (S : Nat) (ty : TypeId) : ∃ v, BoxR w v G S ty := by
  refine ⟨_, rfl, fun k hk => ?_, fun i _ => by simp, (Below.refl _ _).alloc (Nat.le_refl _) _, size_alloc _ _⟩
  have : k = 0 ∨ k = 1 ∨ k = 2 := by omega
  rcases this with rfl | rfl | rfl <;> simp
theorem results_boxR {fn : Func} {p : Tmp} (h : fn.results = #[.cell p 103]) (tmps : Array Value) (v : World) (b : Nat) (x y z : Value) (hp : tmps.getD p undef = .pointer (some ⟨b, 0, none⟩))
    (c0 : v.cell? ⟨b, 0, none⟩ = some x) (c1 : v.cell? ⟨b, 1, none⟩ = some y) (c2 : v.cell? ⟨b, 2, none⟩ = some z) :
    (results fn tmps).run Tryd.prog v = .ok (.agg #[x, y, z]) v := by
  have hp' : tmps[p]?.getD undef = .pointer (some ⟨b, 0, none⟩) := by simpa using hp
  simp [results, h, hp', asAddr, go_sem, c0, c1, c2]
/-- Three cells that are set. -/
theorem set3_cells {v : World} {b : Nat} {x0 y0 z0 : Value} (x y z : Value) (c0 : v.cell? ⟨b, 0, none⟩ = some x0) (c1 : v.cell? ⟨b, 1, none⟩ = some y0) (c2 : v.cell? ⟨b, 2, none⟩ = some z0) :
    (((v.setCell ⟨b, 0, none⟩ x).setCell ⟨b, 1, none⟩ y).setCell ⟨b, 2, none⟩ z).cell? ⟨b, 0, none⟩ = some x ∧ (((v.setCell ⟨b, 0, none⟩ x).setCell ⟨b, 1, none⟩ y).setCell ⟨b, 2, none⟩ z).cell? ⟨b, 1, none⟩ = some y ∧ (((v.setCell ⟨b, 0, none⟩ x).setCell ⟨b, 1, none⟩ y).setCell ⟨b, 2, none⟩ z).cell? ⟨b, 2, none⟩ = some z := by
  have d1 : ((v.setCell ⟨b, 0, none⟩ x)).cell? ⟨b, 1, none⟩ = some y0 := (cell_setCell_ne _ _ _ _ _ _ (Or.inr (by omega))).trans c1
  have d2 : (((v.setCell ⟨b, 0, none⟩ x)).setCell ⟨b, 1, none⟩ y).cell? ⟨b, 2, none⟩ = some z0 := (cell_setCell_ne _ _ _ _ _ _ (Or.inr (by omega))).trans ((cell_setCell_ne _ _ _ _ _ _ (Or.inr (by omega))).trans c2)
  refine ⟨?_, ?_, World.cell?_setCell_same _ _ _ d2⟩
  · rw [cell_setCell_ne _ _ _ _ _ _ (Or.inr (by omega)), cell_setCell_ne _ _ _ _ _ _ (Or.inr (by omega))]
    exact World.cell?_setCell_same _ _ _ c0
  · rw [cell_setCell_ne _ _ _ _ _ _ (Or.inr (by omega))]
    exact World.cell?_setCell_same _ _ _ d1
theorem Fam.three_set {w : World} {b g n : Nat} {F : Nat → Int} (h : Fam w g 0 n F) (hne : g ≠ b) (x y z : Value) : Fam (((w.setCell ⟨b, 0, none⟩ x).setCell ⟨b, 1, none⟩ y).setCell ⟨b, 2, none⟩ z) g 0 n F := ((h.setCell_ne hne x).setCell_ne hne y).setCell_ne hne z
theorem size_three (w : World) (b : Nat) (x y z : Value) : (((w.setCell ⟨b, 0, none⟩ x).setCell ⟨b, 1, none⟩ y).setCell ⟨b, 2, none⟩ z).heap.size = w.heap.size :=
  (((Wrote.refl (fun b' _ => b' = b) w).setCell rfl x).setCell rfl y |>.setCell rfl z).size
/-- What an array of three rows is, behind a loop that filled a box with them. -/
theorem trio_of {wc wr : World} {B R S : Nat} {F : Nat → Nat → Int} (h : Three wc wr R 3 S S F) (hBR : B < R) (hcB : ∀ k, k < 3 → wr.cell? ⟨B, k, none⟩ = some (.slice none 0 0)) :
    ∃ G : Nat → Nat, (∀ k, k < 3 → wr.cell? ⟨R, k, none⟩ = some (.slice (some ⟨G k, 0, none⟩) S S)) ∧ ∀ w1, w1 = (((wr.setCell ⟨B, 0, none⟩ (.slice (some ⟨G 0, 0, none⟩) S S)).setCell ⟨B, 1, none⟩ (.slice (some ⟨G 1, 0, none⟩) S S)).setCell ⟨B, 2, none⟩ (.slice (some ⟨G 2, 0, none⟩) S S)) →
      (w1.cell? ⟨B, 0, none⟩ = some (.slice (some ⟨G 0, 0, none⟩) S S) ∧ w1.cell? ⟨B, 1, none⟩ = some (.slice (some ⟨G 1, 0, none⟩) S S) ∧ w1.cell? ⟨B, 2, none⟩ = some (.slice (some ⟨G 2, 0, none⟩) S S)) ∧ Trio w1 G S F ∧ Below B wr w1 := by
  obtain ⟨g0, k0, f0, l0, m0⟩ := h.have_ 0 (by omega)
  obtain ⟨g1, k1, f1, l1, m1⟩ := h.have_ 1 (by omega)
  obtain ⟨g2, k2, f2, l2, m2⟩ := h.have_ 2 (by omega)
  obtain ⟨G, e0, e1, e2⟩ : ∃ G : Nat → Nat, g0 = G 0 ∧ g1 = G 1 ∧ g2 = G 2 := ⟨fun k => if k = 0 then g0 else if k = 1 then g1 else g2, rfl, rfl, rfl⟩
  subst e0 e1 e2
  refine ⟨G, fun k hk => ?_, fun w1 e => ?_⟩
  · have : k = 0 ∨ k = 1 ∨ k = 2 := by omega
    rcases this with rfl | rfl | rfl <;> assumption
  · subst e
    refine ⟨set3_cells _ _ _ (hcB 0 (by omega)) (hcB 1 (by omega)) (hcB 2 (by omega)), fun k hk => ?_, below_three (Below.refl _ _) (Nat.le_refl _) _ _ _⟩
    rw [size_three]
    have : k = 0 ∨ k = 1 ∨ k = 2 := by omega
    rcases this with rfl | rfl | rfl
    · exact ⟨f0.three_set (by omega) _ _ _, m0⟩
    · exact ⟨f1.three_set (by omega) _ _ _, m1⟩
    · exact ⟨f2.three_set (by omega) _ _ _, m2⟩
theorem bare_box (w : World) (ty : TypeId) : ∃ v, v = w.alloc (.cells #[.slice none 0 0, .slice none 0 0, .slice none 0 0] ty) ∧ (∀ k, k < 3 → v.cell? ⟨w.heap.size, k, none⟩ = some (.slice none 0 0)) ∧ Wrt v w.heap.size 0 3 ∧ Below w.heap.size w v ∧ w.heap.size < v.heap.size := by
  refine ⟨_, rfl, fun k hk => ?_, fun i _ => by simp, (Below.refl _ _).alloc (Nat.le_refl _) _, by rw [size_alloc]; omega⟩
  have : k = 0 ∨ k = 1 ∨ k = 2 := by omega
  rcases this with rfl | rfl | rfl <;> simp

set_option maxHeartbeats 2000000 in
theorem bforward_any (l S : Nat) (hS : S = 2 ^ l) (hl : l ≤ 12) (b o c : Nat) (L : Nat → Int) (hL : ∀ t, 0 ≤ L t) (w : World) (hT : Tab w) (hf : Fam w b o S L) :
    Calls Tryd.prog 75 #[.slice (some ⟨b, o, none⟩) S c] w fun e w' =>
      ∃ G : Nat → Nat, e = .returned (.agg #[.slice (some ⟨G 0, 0, none⟩) S S, .slice (some ⟨G 1, 0, none⟩) S S, .slice (some ⟨G 2, 0, none⟩) S S]) ∧ Trio w' G S (fun k => dft k (rt k l) S L) ∧ Below w.heap.size w w' := by
  have hpos : 1 ≤ S := by rw [hS]; exact Nat.one_le_two_pow
  have hbl : b < w.heap.size := hf.lt (by omega)
  obtain ⟨D, hD⟩ : ∃ D : Nat → Nat → Int, D = fun (k : Nat) => dft k (rt k l) S L := ⟨_, rfl⟩
  have c1 : Hid (∀ (k : Nat) (_ : k < 3) (v : World) (_ : Tab v) (_ : Fam v b o S L), Calls Tryd.prog 87 #[.int .i64 k, .slice (some ⟨b, o, none⟩) S c] v fun e w' => e = .returned (.tuple #[.slice (some ⟨v.heap.size, 0, none⟩) S S, .int .i64 0]) ∧ Fam w' v.heap.size 0 S (D k) ∧ Below v.heap.size v w' ∧ v.heap.size < w'.heap.size) := fun k hk v hv fv => (forward_yes k (pr_ne k hk) l S hS hl b o c L hL v hv fv).mono fun e w' ⟨h1, h2, _, h3, h4⟩ => ⟨h1, by rw [hD]; exact h2, h3, h4⟩
  rw [← hD]
  obtain ⟨w1, e1, k1, r1, b1, s1⟩ := bare_box w 103
  have T1 : Tab w1 := hT.below b1 (tab_lt hT)
  have F1 : Fam w1 b o S L := hf.below b1 hbl
  obtain ⟨w2, e2, h3, b2⟩ := three_new w1 S S D 103
  have E1 : Hid _ := e1
  have E2 : Hid _ := e2
  have H3 : Hid _ := h3
  have F2 : Hid (Fam w2 b o S L) := F1.below b2 (by omega)
  have T2 : Tab w2 := T1.below b2 (tab_lt T1)
  have K2 : Hid (∀ k, k < 3 → w2.cell? ⟨w.heap.size, k, none⟩ = some (.slice none 0 0)) := fun k hk => (b2.cell (p := ⟨w.heap.size, k, none⟩) s1).trans (k1 k hk)
  have R2 : Hid (Wrt w2 w.heap.size 0 3) := r1.below b2 s1
  have B2 : Hid (Below w.heap.size w w2) := b1.trans (b2.mono b1.size)
  have hlt1 := tab_lt T1
  have Hs : Hid (w.heap.size + 1 = w1.heap.size) := by show _ = _; rw [e1, size_alloc]
  clear hL hf hD hS hl F1 e1 e2 h3 b1 b2 k1 r1 T1 hT
  go_enter Tryd.func75, Tryd.ntmps75
  go_wp2_with fail
  rw [← E1.out, ← E2.out, Hs.out]
  generalize hR : w1.heap.size = R at *
  clear hR E1 E2 Hs
  go_loopw [5] (fun vi wr => ∃ k : Nat, k ≤ 3 ∧ vi = .int .i64 k ∧ Three w2 wr R k S S D) (fun vi _ => 3 - (intOf vi).toNat)
  case atStart => exact ⟨0, Nat.zero_le _, rfl, H3.out⟩
  case round =>
    obtain ⟨k, hk, rfl, hR⟩ := hrel
    have HR : Hid (Three w2 wr R k S S D) := hR
    have Tr : Tab wr := T2.below hR.bel hlt1
    by_cases hk3 : k < 3
    · have c1' : Hid _ := c1.out k hk3 wr Tr (F2.out.below hR.bel (by omega))
      have hlr := hR.lt
      have hcR := hR.bare k (Nat.le_refl _) hk3
      have hfR := hR.wrt.zero k hk3
      have hkI : (k : Int) < 3 := by omega
      clear hR
      go_wp2_with fail
      refine Calls.mono (Hid.out c1') ?_; rintro e w4 ⟨rfl, f4, b4, s4⟩
      have HS : Hid _ := HR.out.step hk3 b4 (Nat.le_refl _) s4 f4 (Nat.le_refl _) (fun _ _ => rfl)
      have hc4 : w4.cell? ⟨R, k, none⟩ = some (.slice none 0 0) := (b4.cell (p := ⟨R, k, none⟩) hlr).trans hcR
      have hf4 : w4.frozen? ⟨R, k, none⟩ = false := (b4.frozen (p := ⟨R, k, none⟩) hlr).trans hfR
      clear f4 b4 hcR hfR
      go_wp2_with fail
      go_roundw
      case rel => exact ⟨k + 1, by omega, by go_num, HS.out⟩
      case measure => simp [intOf]; omega
    · obtain rfl : k = 3 := by omega
      have hcB : ∀ k, k < 3 → wr.cell? ⟨w.heap.size, k, none⟩ = some (.slice none 0 0) := fun k hk => (hR.bel.cell (p := ⟨w.heap.size, k, none⟩) (by omega)).trans (K2.out k hk)
      obtain ⟨G, hG, hw1⟩ := trio_of hR (B := w.heap.size) (by omega) hcB
      have x0 := hG 0 (by omega)
      have x1 := hG 1 (by omega)
      have x2 := hG 2 (by omega)
      have y0 := hcB 0 (by omega)
      have y1 := hcB 1 (by omega)
      have y2 := hcB 2 (by omega)
      obtain ⟨z0, z1, z2⟩ := (R2.out.below hR.bel (by omega)).c3
      have HW : Hid _ := hw1
      have Br : Hid (Below w.heap.size w wr) := B2.out.trans (hR.bel.mono (by omega))
      clear hR hG hw1 hcB
      go_wp2_with fail
      obtain ⟨⟨q0, q1, q2⟩, tr, bl⟩ := HW.out _ rfl
      refine bodyPost_ret (results_boxR rfl _ _ w.heap.size _ _ _ rfl q0 q1 q2) rfl ?_
      exact ⟨G, rfl, tr, Br.out.trans bl⟩

end Go.Proofs.YtlogdjhnhnfbkaaDoor

namespace Go.Proofs.YtlogdjhnhnfbkaaDoor
open Go.RowKit Res

set_option maxHeartbeats 2000000 in
theorem bcyclic_any (l S : Nat) (hS : S = 2 ^ l) (hl : l ≤ 12) (a b : Nat → Int) (G H : Nat → Nat) (w : World) (hT : Tab w) (tg : Trio w G S (fun k => dft k (rt k l) S a)) (th : Trio w H S (fun k => dft k (rt k l) S b)) :
    Calls Tryd.prog 77 #[.agg #[.slice (some ⟨G 0, 0, none⟩) S S, .slice (some ⟨G 1, 0, none⟩) S S, .slice (some ⟨G 2, 0, none⟩) S S], .agg #[.slice (some ⟨H 0, 0, none⟩) S S, .slice (some ⟨H 1, 0, none⟩) S S, .slice (some ⟨H 2, 0, none⟩) S S]] w fun e w' =>
      ∃ R : Nat → Nat, e = .returned (.agg #[.slice (some ⟨R 0, 0, none⟩) S S, .slice (some ⟨R 1, 0, none⟩) S S, .slice (some ⟨R 2, 0, none⟩) S S]) ∧ Trio w' R S (fun k => cyc k S a b) ∧ Below w.heap.size w w' := by
  have hpos : 1 ≤ S := by rw [hS]; exact Nat.one_le_two_pow
  have hle : S ≤ 4096 := by rw [hS]; exact Nat.pow_le_pow_right (by omega) hl
  obtain ⟨A, hA⟩ : ∃ A : Nat → Nat → Int, A = fun (k : Nat) => dft k (rt k l) S a := ⟨_, rfl⟩
  obtain ⟨B, hB⟩ : ∃ B : Nat → Nat → Int, B = fun (k : Nat) => dft k (rt k l) S b := ⟨_, rfl⟩
  obtain ⟨C, hC⟩ : ∃ C : Nat → Nat → Int, C = fun (k : Nat) => cyc k S a b := ⟨_, rfl⟩
  have hA0 : ∀ k t, 0 ≤ A k t := fun k t => by rw [hA]; exact dft_nonneg _ _ _ _ _
  have hB0 : ∀ k t, 0 ≤ B k t := fun k t => by rw [hB]; exact dft_nonneg _ _ _ _ _
  have c1 : Hid (∀ (k : Nat) (_ : k < 3) (v : World) (_ : Tab v) (lb : Nat) (_ : Fam v lb 0 S (fun t => md k (A k t * B k t))), Calls Tryd.prog 90 #[.int .i64 k, .slice (some ⟨lb, 0, none⟩) S S] v fun e w' => e = .returned (.tuple #[.slice (some ⟨v.heap.size, 0, none⟩) S S, .int .i64 0]) ∧ Fam w' v.heap.size 0 S (C k) ∧ Below v.heap.size v w' ∧ v.heap.size < w'.heap.size) := fun k hk v hv lb fl =>
    (inverse_yes k (pr_ne k hk) l S hS hl lb 0 S _ (fun t => md_nonneg _ _) v hv fl).mono fun e w' ⟨h1, h2, _, h3, h4⟩ => ⟨h1, h2.congr (fun t ht => by rw [hA, hB, hC]; exact idft_mul k (pr_ne k hk) l S hS hl a b t ht), h3, h4⟩
  rw [← hA] at tg
  rw [← hB] at th
  rw [← hC]
  have hmk := run_make_row' (P := Tryd.prog) 82 49 (.int .u64 0) 8 Tryd.underlying82 infoU rfl .i64 .i64 S (by omega) (by omega)
  obtain ⟨w1, x1⟩ := boxR w G S 103
  obtain ⟨w2, x2⟩ := boxR w1 H S 103
  obtain ⟨w3, e3, k3, r3, b3, s3⟩ := bare_box w2 103
  obtain ⟨w4, e4, h4, b4⟩ := three_new w3 S S C 103
  have T1 : Tab w1 := hT.below x1.bel (tab_lt hT)
  have T2 : Tab w2 := T1.below x2.bel (tab_lt T1)
  have T3 : Tab w3 := T2.below b3 (tab_lt T2)
  have T4 : Tab w4 := T3.below b4 (tab_lt T3)
  have E1 : Hid _ := x1.eq
  have E2 : Hid _ := x2.eq
  have E3 : Hid _ := e3
  have E4 : Hid _ := e4
  have H4 : Hid _ := h4
  have z1 : w.heap.size + 1 = w1.heap.size := x1.size.symm
  have z2 : w1.heap.size + 1 = w2.heap.size := x2.size.symm
  have z3 : w2.heap.size + 1 = w3.heap.size := by rw [e3, size_alloc]
  have B14 : Below w1.heap.size w1 w4 := x2.bel.trans ((b3.mono (by omega)).trans (b4.mono (by omega)))
  have B24 : Below w2.heap.size w2 w4 := b3.trans (b4.mono (by omega))
  have B04 : Hid (Below w.heap.size w w4) := x1.bel.trans (B14.mono (by omega))
  have KA : Hid (∀ k, k < 3 → w4.cell? ⟨w.heap.size, k, none⟩ = some (.slice (some ⟨G k, 0, none⟩) S S)) := fun k hk => (B14.cell (p := ⟨w.heap.size, k, none⟩) (by show w.heap.size < _; omega)).trans (x1.cell k hk)
  have KB : Hid (∀ k, k < 3 → w4.cell? ⟨w1.heap.size, k, none⟩ = some (.slice (some ⟨H k, 0, none⟩) S S)) := fun k hk => (B24.cell (p := ⟨w1.heap.size, k, none⟩) (by show w1.heap.size < _; omega)).trans (x2.cell k hk)
  have KR : Hid (∀ k, k < 3 → w4.cell? ⟨w2.heap.size, k, none⟩ = some (.slice none 0 0)) := fun k hk => (b4.cell (p := ⟨w2.heap.size, k, none⟩) s3).trans (k3 k hk)
  have RR : Hid (Wrt w4 w2.heap.size 0 3) := r3.below b4 s3
  have TG : Hid (Trio w4 G S A) := tg.below B04.out (Nat.le_refl _)
  have TH : Hid (Trio w4 H S B) := th.below B04.out (Nat.le_refl _)
  have LG : ∀ k, k < 3 → G k < w.heap.size := fun k hk => (tg k hk).2
  have LH : ∀ k, k < 3 → H k < w.heap.size := fun k hk => (th k hk).2
  have Z1 : Hid _ := z1
  have Z2 : Hid _ := z2
  have Z3 : Hid _ := z3
  have y1 : w.heap.size < w1.heap.size := by omega
  have y2 : w1.heap.size < w2.heap.size := by omega
  have y3 : w2.heap.size < w3.heap.size := by omega
  have hlt3 := tab_lt T3
  clear tg th hA hB hC hS hl x1 x2 e3 e4 h4 k3 r3 b3 b4 B14 B24 z1 z2 z3 T1 T2 T3 hT s3
  go_enter Tryd.func77, Tryd.ntmps77
  go_wp2_with fail
  rw [← E1.out, ← E2.out, ← E3.out, ← E4.out, Z1.out, Z2.out, Z3.out]
  clear E1 E2 E3 E4 Z1 Z2 Z3
  generalize hR : w3.heap.size = R at *
  generalize hRr : w2.heap.size = Q at *
  generalize hRb : w1.heap.size = N at *
  clear hR hRr hRb
  go_loopw [9] (fun vi wr => ∃ k : Nat, k ≤ 3 ∧ vi = .int .i64 k ∧ Three w4 wr R k S S C) (fun vi _ => 3 - (intOf vi).toNat)
  case atStart => exact ⟨0, Nat.zero_le _, rfl, H4.out⟩
  case round =>
    rename World => wo
    obtain ⟨k, hk, rfl, hR⟩ := hrel
    have HR : Hid (Three w4 wo R k S S C) := hR
    have Tr : Tab wo := T4.below hR.bel hlt3
    have hlr := hR.lt
    by_cases hk3 : k < 3
    · have hkI : (k : Int) < 3 := by omega
      have hk0 : (0 : Int) ≤ (k : Int) := by omega
      have ca : wo.cell? ⟨w.heap.size, k, none⟩ = some (.slice (some ⟨G k, 0, none⟩) S S) := (hR.bel.cell (p := ⟨w.heap.size, k, none⟩) (by show w.heap.size < _; omega)).trans (KA.out k hk3)
      have lg := LG k hk3
      have lh := LH k hk3
      have fg : Fam wo (G k) 0 S (A k) := (TG.out k hk3).1.below hR.bel (by omega)
      have fh : Fam wo (H k) 0 S (B k) := (TH.out k hk3).1.below hR.bel (by omega)
      have cb : wo.cell? ⟨N, k, none⟩ = some (.slice (some ⟨H k, 0, none⟩) S S) := (hR.bel.cell (p := ⟨N, k, none⟩) (by show N < _; omega)).trans (KB.out k hk3)
      have hcR := hR.bare k (Nat.le_refl _) hk3
      have hfR := hR.wrt.zero k hk3
      obtain ⟨wa, ea, fa, ra, ba⟩ : ∃ wa, wa = wo.alloc (.cells (madeCells #[.int .u64 0] S) 49) ∧ Fam wa wo.heap.size 0 S (fun _ => 0) ∧ Wrt wa wo.heap.size 0 S ∧ Below wo.heap.size wo wa := ⟨_, rfl, fam_made wo S 49, wrt_made wo S 49, (Below.refl _ _).alloc (Nat.le_refl _) _⟩
      have Ea : Hid _ := ea
      have Ta : Tab wa := Tr.below ba (tab_lt Tr)
      have F0 : Hid (Fill wa wa wo.heap.size S 0 (fun t => md k (A k t * B k t)) (fun _ => 0)) := Fill.start _ fa ra
      have Ca : Hid (wa.cell? ⟨w.heap.size, k, none⟩ = some (.slice (some ⟨G k, 0, none⟩) S S)) := (ba.cell (p := ⟨w.heap.size, k, none⟩) (by show w.heap.size < _; omega)).trans ca
      have Cb : Hid (wa.cell? ⟨N, k, none⟩ = some (.slice (some ⟨H k, 0, none⟩) S S)) := (ba.cell (p := ⟨N, k, none⟩) (by show N < _; omega)).trans cb
      have Fg : Hid (Fam wa (G k) 0 S (A k)) := fg.below ba (by omega)
      have Fh : Hid (Fam wa (H k) 0 S (B k)) := fh.below ba (by omega)
      have Ba : Hid (Below wo.heap.size wo wa) := ba
      have Hsa : Hid (wo.heap.size < wa.heap.size) := by show _ < _; rw [ea, size_alloc]; omega
      have CR : Hid _ := hcR
      have FR : Hid _ := hfR
      clear hR fg fh cb fa ra ba ea hcR hfR
      go_wp2_with fail
      rw [← Ea.out]
      clear Ea ca
      have lgr : G k < wo.heap.size := by omega
      have lhr : H k < wo.heap.size := by omega
      generalize hgr : wo.heap.size = g at *
      have Hgr : Hid (wo.heap.size = g) := hgr
      clear hgr
      have Bwr : Hid (Below g wo wa) := Ba.out
      clear Ba
      go_loopw [19] (fun vi wx => ∃ i : Nat, i ≤ S ∧ vi = .int .i64 i ∧ Fill wa wx g S i (fun t => md k (A k t * B k t)) (fun _ => 0)) (fun vi _ => S - (intOf vi).toNat)
      case atStart => exact ⟨0, Nat.zero_le _, rfl, F0.out⟩
      case round =>
        obtain ⟨i, hi, rfl, hF⟩ := hrel
        have HF : Hid _ := hF
        have Tx : Tab wr := Ta.wrote hF.wrote (fun o e => by omega)
        by_cases hlt2 : i < S
        · have hcA : wr.cell? ⟨w.heap.size, k, none⟩ = some (.slice (some ⟨G k, 0, none⟩) S S) := (hF.wrote.cell _ _ (fun e => by omega)).trans Ca.out
          have hcB : wr.cell? ⟨N, k, none⟩ = some (.slice (some ⟨H k, 0, none⟩) S S) := (hF.wrote.cell _ _ (fun e => by omega)).trans Cb.out
          have hca : wr.cell? ⟨G k, i, none⟩ = some (.int .u64 (A k i)) := (hF.wrote.fam Fg.out (fun t _ e => by omega)).zero i hlt2
          have hcb : wr.cell? ⟨H k, i, none⟩ = some (.int .u64 (B k i)) := (hF.wrote.fam Fh.out (fun t _ e => by omega)).zero i hlt2
          have hcg := hF.fam.zero i hlt2
          have hfg := hF.wrt.zero i hlt2
          have HS : Hid _ := (HF.out.step hlt2 (x := md k (A k i * B k i)) rfl).drew
          have hAi := hA0 k i
          have hBi := hB0 k i
          have hin : (i : Int) < (S : Int) := by omega
          have hi0 : (0 : Int) ≤ (i : Int) := by omega
          have n1 : g ≠ w.heap.size := by omega
          have n2 : g ≠ N := by omega
          have n3 : g ≠ G k := by omega
          have n4 : g ≠ H k := by omega
          clear HF hF
          go_wp2_with fail
          go_region_held3 (fun w' => w'.cell? ⟨w.heap.size, k, none⟩ = some (.slice (some ⟨G k, 0, none⟩) S S) ∧ w'.cell? ⟨N, k, none⟩ = some (.slice (some ⟨H k, 0, none⟩) S S) ∧ w'.cell? ⟨G k, i, none⟩ = some (.int .u64 (A k i)) ∧ w'.cell? ⟨H k, i, none⟩ = some (.int .u64 (B k i))) (go_keep)
            ((go_at_call 89; refine (mul_any k (A k i) (B k i) _ ?hT hAi hBi).mono ?_; (case hT => exact Tx); rintro e w' ⟨rfl, hw'⟩; subst w'))
          go_wp2_with fail
          go_roundw
          case rel => exact ⟨i + 1, by omega, by go_num, HS.out⟩
          case measure => simp [intOf]; omega
        · have hfw : Fam wr g 0 S (fun t => md k (A k t * B k t)) := hF.fin (by omega)
          have c1' : Hid _ := c1.out k hk3 wr Tx g hfw
          have Bx : Hid (Below g wo wr) := Bwr.out.trans (hF.wrote.below (fun b o e => by omega))
          have hltI : ¬ (i : Int) < (S : Int) := by omega
          have CRx : wr.cell? ⟨R, k, none⟩ = some (.slice none 0 0) := (Bx.out.cell (p := ⟨R, k, none⟩) (by show R < g; omega)).trans CR.out
          have FRx : wr.frozen? ⟨R, k, none⟩ = false := (Bx.out.frozen (p := ⟨R, k, none⟩) (by show R < g; omega)).trans FR.out
          have hgs : g ≤ wr.heap.size := by have := Bx.out.size; rw [Hgr.out] at this; exact this
          have hRx : R < wr.heap.size := by omega
          clear hF HF hfw c1
          go_wp2_with fail
          refine Calls.mono (Hid.out c1') ?_; rintro e w4' ⟨rfl, f4, b4, s4⟩
          have HS : Hid _ := HR.out.step hk3 (Bx.out.trans (b4.mono hgs) |>.mono (by rw [Hgr.out]; exact Nat.le_refl _)) (by rw [Hgr.out]; exact hgs) s4 f4 (Nat.le_refl _) (fun _ _ => rfl)
          have hc4 : w4'.cell? ⟨R, k, none⟩ = some (.slice none 0 0) := (b4.cell (p := ⟨R, k, none⟩) hRx).trans CRx
          have hf4 : w4'.frozen? ⟨R, k, none⟩ = false := (b4.frozen (p := ⟨R, k, none⟩) hRx).trans FRx
          clear f4 b4 CRx FRx
          go_wp2_with fail
          go_roundw
          case rel => exact ⟨k + 1, by omega, by go_num, HS.out⟩
          case measure => simp [intOf]; omega
    · obtain rfl : k = 3 := by omega
      have hcB : ∀ k, k < 3 → wo.cell? ⟨Q, k, none⟩ = some (.slice none 0 0) := fun k hk => (hR.bel.cell (p := ⟨Q, k, none⟩) (by show Q < R; omega)).trans (KR.out k hk)
      obtain ⟨G', hG, hw1⟩ := trio_of hR (B := Q) (by omega) hcB
      have x0 := hG 0 (by omega)
      have x1 := hG 1 (by omega)
      have x2 := hG 2 (by omega)
      have y0 := hcB 0 (by omega)
      have y1' := hcB 1 (by omega)
      have y2' := hcB 2 (by omega)
      obtain ⟨z0, z1, z2⟩ := (RR.out.below hR.bel (by omega)).c3
      have HW : Hid _ := hw1
      have Br : Hid (Below w.heap.size w wo) := B04.out.trans (hR.bel.mono (by omega))
      have hQ : w.heap.size ≤ Q := by omega
      clear hR hG hw1 hcB
      go_wp2_with fail
      obtain ⟨⟨q0, q1, q2⟩, tr, bl⟩ := HW.out _ rfl
      refine bodyPost_ret (results_boxR rfl _ _ Q _ _ _ rfl q0 q1 q2) rfl ?_
      exact ⟨G', rfl, tr, Br.out.trans (bl.mono hQ)⟩

end Go.Proofs.YtlogdjhnhnfbkaaDoor

namespace Go.Proofs.YtlogdjhnhnfbkaaDoor
open Go.RowKit Res

/-- A box of three slices, of which the first k are cut. -/
structure Cut (w1 wr : World) (B k p r S : Nat) (G : Nat → Nat) : Prop where
  have_ : ∀ i, i < k → ∃ c, wr.cell? ⟨B, i, none⟩ = some (.slice (some ⟨G i, p, none⟩) r c)
  old : ∀ i, k ≤ i → i < 3 → wr.cell? ⟨B, i, none⟩ = some (.slice (some ⟨G i, 0, none⟩) S S)
  wrt : Wrt wr B 0 3
  wrote : Wrote (fun b _ => b = B) w1 wr
theorem Cut.step {w1 wr : World} {B k p r S c : Nat} {G : Nat → Nat} (h : Cut w1 wr B k p r S G) (hk : k < 3) : Cut w1 (wr.setCell ⟨B, k, none⟩ (.slice (some ⟨G k, p, none⟩) r c)) B (k + 1) p r S G := by
  refine ⟨fun i hi => ?_, fun i h1 h2 => ?_, h.wrt.setCell _ _, h.wrote.setCell rfl _⟩
  · by_cases e : i = k
    · subst e
      exact ⟨c, World.cell?_setCell_same _ _ _ (h.old i (Nat.le_refl _) hk)⟩
    · obtain ⟨c', hc⟩ := h.have_ i (by omega)
      exact ⟨c', (cell_setCell_ne _ _ _ _ _ _ (Or.inr e)).trans hc⟩
  · exact (cell_setCell_ne _ _ _ _ _ _ (Or.inr (by omega))).trans (h.old i (by omega) h2)

set_option maxHeartbeats 1000000 in
theorem bjoined_any (S p r : Nat) (hS : S ≤ 4096) (hr : 1 ≤ r) (hp : p + r ≤ S) (G : Nat → Nat) (F : Nat → Nat → Int) (V : Nat → Int) (hV0 : ∀ t, t < r → 0 ≤ V t) (hV1 : ∀ t, t < r → V t ≤ 18446744073709551615) (hF0 : ∀ k t, 0 ≤ F k t) (hF : ∀ (k : Nat) t, k < 3 → t < r → F k (p + t) = md k (V t)) (w : World) (hT : Tab w) (tg : Trio w G S F) :
    Calls Tryd.prog 78 #[.agg #[.slice (some ⟨G 0, 0, none⟩) S S, .slice (some ⟨G 1, 0, none⟩) S S, .slice (some ⟨G 2, 0, none⟩) S S], .int .i64 p, .int .i64 r] w fun e w' =>
      ∃ g, e = .returned (.slice (some ⟨g, 0, none⟩) r r) ∧ Fam w' g 0 r V ∧ Below w.heap.size w w' := by
  obtain ⟨w1, x1⟩ := boxR w G S 103
  have E1 : Hid _ := x1.eq
  have B1 : Hid _ := x1.bel
  have T1 : Tab w1 := hT.below x1.bel (tab_lt hT)
  have TG : Hid (Trio w1 G S F) := tg.below x1.bel (Nat.le_refl _)
  have LG : ∀ k, k < 3 → G k < w.heap.size := fun k hk => (tg k hk).2
  have C0 : Hid (Cut w1 w1 w.heap.size 0 p r S G) := ⟨fun i h => by omega, fun i _ h => x1.cell i h, x1.wrt, Wrote.refl _ _⟩
  have hs1 := x1.size
  have hlt := tab_lt hT
  have c1 : Hid (∀ (v : World), Tab v → Trio v G S F → ∀ c0 c1 c2 : Nat, Calls Tryd.prog 91 #[.slice (some ⟨G 0, p, none⟩) r c0, .slice (some ⟨G 1, p, none⟩) r c1, .slice (some ⟨G 2, p, none⟩) r c2] v fun e w' => ∃ g, e = .returned (.tuple #[.slice (some ⟨g, 0, none⟩) r r, .bool true]) ∧ Fam w' g 0 r V ∧ Below v.heap.size v w') := fun v hv tv c0 c1 c2 => by
    have part : ∀ k, k < 3 → Fam v (G k) p r (fun t => F k (p + t)) := fun k hk => by
      have := (tv k hk).1.part p r hp
      rwa [Nat.zero_add] at this
    refine (rows_any _ _ _ r c0 c1 c2 (by omega) (fun t => F 0 (p + t)) (fun t => F 1 (p + t)) (fun t => F 2 (p + t)) (fun t => hF0 _ _) (fun t => hF0 _ _) (fun t => hF0 _ _) v hv (fun _ => ⟨G 0, p, rfl, part 0 (by omega)⟩) (fun _ => ⟨G 1, p, rfl, part 1 (by omega)⟩) (fun _ => ⟨G 2, p, rfl, part 2 (by omega)⟩)).mono ?_
    rintro e w' ⟨ht, hb⟩
    have key : ∀ t, t < r → nm (F 0 (p + t)) (F 1 (p + t)) (F 2 (p + t)) = V t := fun t ht => by
      rw [hF 0 t (by omega) ht, hF 1 t (by omega) ht, hF 2 t (by omega) ht]
      exact nm_of (hV0 t ht) (hV1 t ht)
    rcases ht with ⟨_, g, he, _, _, hf⟩ | ⟨⟨t, ht, hbig⟩, _⟩
    · exact ⟨g, he, hf.congr key, hb⟩
    · exfalso
      have := hV1 t ht
      have hbig' : 18446744073709551616 ≤ nm (F 0 (p + t)) (F 1 (p + t)) (F 2 (p + t)) := hbig
      rw [key t ht] at hbig'
      omega
  have hpI : (p : Int) + (r : Int) ≤ (S : Int) := by omega
  obtain ⟨q, hq⟩ : ∃ q, q = p + r := ⟨_, rfl⟩
  have hqI : (p : Int) + (r : Int) = (q : Int) := by omega
  have hqS : q ≤ S := by omega
  have hpq : p ≤ q := by omega
  have hqp : q - p = r := by omega
  clear x1 tg hF hF0 hV0 hV1 hT hq hp
  go_enter Tryd.func78, Tryd.ntmps78
  go_wp2_with fail
  rw [← E1.out]
  clear E1
  generalize hB : w.heap.size = B at *
  have HB : Hid (w.heap.size = B) := hB
  clear hB
  go_loopw [10] (fun vi wr => ∃ k : Nat, k ≤ 3 ∧ vi = .int .i64 k ∧ Cut w1 wr B k p r S G) (fun vi _ => 3 - (intOf vi).toNat)
  case atStart => exact ⟨0, Nat.zero_le _, rfl, C0.out⟩
  case round =>
    obtain ⟨k, hk, rfl, hC⟩ := hrel
    have HC : Hid _ := hC
    by_cases hk3 : k < 3
    · have hkI : (k : Int) < 3 := by omega
      have hck := hC.old k (Nat.le_refl _) hk3
      have hfk := hC.wrt.zero k hk3
      have HS : Hid (∀ c, Cut w1 (wr.setCell ⟨B, k, none⟩ (.slice (some ⟨G k, p, none⟩) r c)) B (k + 1) p r S G) := fun c => HC.out.step hk3
      clear hC
      go_wp2_with fail
      go_roundw
      case rel => exact ⟨k + 1, by omega, by go_num, HS.out _⟩
      case measure => simp [intOf]; omega
    · obtain rfl : k = 3 := by omega
      obtain ⟨q0, k0⟩ := hC.have_ 0 (by omega)
      obtain ⟨q1, k1⟩ := hC.have_ 1 (by omega)
      obtain ⟨q2, k2⟩ := hC.have_ 2 (by omega)
      have Tr : Tab wr := T1.wrote hC.wrote (fun o e => by omega)
      have tr : Trio wr G S F := fun i hi => ⟨hC.wrote.fam (TG.out i hi).1 (fun t _ e => by have := LG i hi; omega), by rw [hC.wrote.size]; exact (TG.out i hi).2⟩
      have c1' : Hid _ := c1.out wr Tr tr q0 q1 q2
      have Br : Hid (Below w.heap.size w wr) := by show Below _ _ _; rw [HB.out]; exact B1.out.trans (hC.wrote.below (fun b o e => by omega))
      have hsr : Hid (w.heap.size ≤ wr.heap.size) := Br.out.size
      clear hC tr c1
      go_wp2_with fail
      refine Calls.mono (Hid.out c1') ?_; rintro e w5 ⟨g, rfl, f5, b5⟩
      have F5 : Hid _ := f5
      have B5 : Hid (Below w.heap.size w w5) := Br.out.trans (b5.mono hsr.out)
      clear f5 b5
      go_wp2_with fail
      go_ret
      exact ⟨g, rfl, F5.out, B5.out⟩

/-- Three numbers in boxes of their own. -/
theorem three_boxes (w : World) (m n s : Int) (ty : TypeId) : ∃ v, v = ((w.alloc (.cells #[.int .i64 m] ty)).alloc (.cells #[.int .i64 n] ty)).alloc (.cells #[.int .i64 s] ty) ∧ Boxed v w.heap.size ty (.int .i64 m) ∧ Boxed v (w.heap.size + 1) ty (.int .i64 n) ∧ Boxed v (w.heap.size + 1 + 1) ty (.int .i64 s) ∧ Below w.heap.size w v ∧ v.heap.size = w.heap.size + 3 := by
  have z1 : (w.alloc (.cells #[.int .i64 m] ty)).heap.size = w.heap.size + 1 := size_alloc _ _
  have z2 : ((w.alloc (.cells #[.int .i64 m] ty)).alloc (.cells #[.int .i64 n] ty)).heap.size = w.heap.size + 1 + 1 := by rw [size_alloc, z1]
  have h1 := ((Boxed.new w ty (.int .i64 m)).alloc (.cells #[.int .i64 n] ty)).alloc (.cells #[.int .i64 s] ty)
  have h2 := (Boxed.new (w.alloc (.cells #[.int .i64 m] ty)) ty (.int .i64 n)).alloc (.cells #[.int .i64 s] ty)
  have h3 := Boxed.new ((w.alloc (.cells #[.int .i64 m] ty)).alloc (.cells #[.int .i64 n] ty)) ty (.int .i64 s)
  rw [z1] at h2
  rw [z2] at h3
  exact ⟨_, rfl, h1, h2, h3, (((Below.refl _ w).alloc (Nat.le_refl _) _).alloc (by rw [size_alloc]; omega) _).alloc (by rw [z2]; omega) _, by rw [size_alloc, z2]⟩

set_option maxHeartbeats 400000 in
theorem blocks_any (m n s : Int) (w : World) :
    Calls Tryd.prog 76 #[.int .i64 m, .int .i64 n, .int .i64 s] w fun e w' => e = .returned (.func (.func 88) #[] #[.pointer (some ⟨w.heap.size + 1 + 1, 0, none⟩), .pointer (some ⟨w.heap.size, 0, none⟩), .pointer (some ⟨w.heap.size + 1, 0, none⟩)]) ∧
      Boxed w' w.heap.size 3 (.int .i64 m) ∧ Boxed w' (w.heap.size + 1) 3 (.int .i64 n) ∧ Boxed w' (w.heap.size + 1 + 1) 3 (.int .i64 s) ∧ Below w.heap.size w w' ∧ w'.heap.size = w.heap.size + 3 := by
  obtain ⟨v, ev, h1, h2, h3, h4, h5⟩ := three_boxes w m n s 3
  have EV : Hid _ := ev
  have H : Hid _ := And.intro h1 (And.intro h2 (And.intro h3 (And.intro h4 h5)))
  clear ev h1 h2 h3 h4 h5
  go_enter Tryd.func76, Tryd.ntmps76
  go_wp2_with fail
  rw [← EV.out]
  go_ret
  exact ⟨rfl, H.out⟩

end Go.Proofs.YtlogdjhnhnfbkaaDoor

namespace Go.Proofs.YtlogdjhnhnfbkaaDoor
open Go.RowKit Go.Shelf Res

/-- A block: the place of its first number. -/
abbrev Blk (m n : Nat) := { s : Nat // s + m ≤ n }
/-- How many sums it tells. -/
def tl (m n E s : Nat) : Nat := min E (n + 1 - m - s)
abbrev bencs (m n E : Nat) (x : Blk m n) : Array Value := #[.int .i64 (x.1 : Int), .int .i64 (tl m n E x.1 : Int)]
/-- Three boxes are as they were. -/
def Kept3 (b : Nat) (W W' : World) : Prop := W'.cell? ⟨b, 0, none⟩ = W.cell? ⟨b, 0, none⟩ ∧ W'.cell? ⟨b + 1, 0, none⟩ = W.cell? ⟨b + 1, 0, none⟩ ∧ W'.cell? ⟨b + 1 + 1, 0, none⟩ = W.cell? ⟨b + 1 + 1, 0, none⟩
theorem Kept3.trans {b : Nat} {X Y Z : World} (h : Kept3 b X Y) (k : Kept3 b Y Z) : Kept3 b X Z := ⟨k.1.trans h.1, k.2.1.trans h.2.1, k.2.2.trans h.2.2⟩
/-- The blocks are those of the row, in their order. -/
def AllBlk (m n E : Nat) (xs : List (Blk m n)) : Prop := xs.map (·.1) = (List.range xs.length).map (· * E) ∧ n < xs.length * E + m

set_option maxRecDepth 100000 in
set_option maxHeartbeats 2000000 in
theorem blocks_stops (q m n E b : Nat) (s : Int) (hm : m ≤ 4096) (hn : n ≤ 1000000) (hE : 1 ≤ E) (hs : s - (m : Int) + 1 = (E : Int)) (hE2 : E ≤ 4096) (hmn : m ≤ n) (hs2 : s ≤ 4096) (w : World) (hlt : b + 3 ≤ w.heap.size) (hcm : w.cell? ⟨b, 0, none⟩ = some (.int .i64 m)) (hcn : w.cell? ⟨b + 1, 0, none⟩ = some (.int .i64 n)) (hcs : w.cell? ⟨b + 1 + 1, 0, none⟩ = some (.int .i64 s)) :
    SeqStopsK Fence.wide q Tryd.prog 88 #[.pointer (some ⟨b + 1 + 1, 0, none⟩), .pointer (some ⟨b, 0, none⟩), .pointer (some ⟨b + 1, 0, none⟩)] (bencs m n E) (Kept3 b) (AllBlk m n E) (fun _ => True) (n + 1) w := fun l J Jx W hW hJ hJx hY h0 => by
  have cm : W.cell? ⟨b, 0, none⟩ = some (.int .i64 m) := (hW.cell (p := ⟨b, 0, none⟩) (by show b < _; omega)).trans hcm
  have cn : W.cell? ⟨b + 1, 0, none⟩ = some (.int .i64 n) := (hW.cell (p := ⟨b + 1, 0, none⟩) (by show b + 1 < _; omega)).trans hcn
  have cs : W.cell? ⟨b + 1 + 1, 0, none⟩ = some (.int .i64 s) := (hW.cell (p := ⟨b + 1 + 1, 0, none⟩) (by show b + 1 + 1 < _; omega)).trans hcs
  have HY : Hid _ := hY
  have H0 : Hid _ := h0
  clear hY hJ hJx hW hcm hcn hcs h0
  refine callsIn_of_wp Tryd.func88 rfl trivial ?_ rfl
  simp only [Tryd.ntmps88, List.size_toArray, List.length_cons, List.length_nil, Nat.reduceAdd, Nat.reduceSub, Array.replicate_succ, Array.replicate_zero, List.push_toArray, List.append_toArray, List.nil_append, List.cons_append]
  gi_wp2
  gi_loopw [6] (fun p wr => ∃ (pre : List (Blk m n)) (k : Nat), k = pre.length * E ∧ p = .int .i64 k ∧ pre.map (·.1) = (List.range pre.length).map (· * E) ∧ k ≤ n + E ∧ J pre wr ∧ wr.cell? ⟨b, 0, none⟩ = some (.int .i64 m) ∧ wr.cell? ⟨b + 1, 0, none⟩ = some (.int .i64 n)) (fun p _ => n + E - (intOf p).toNat)
  case atStart => exact ⟨[], 0, by simp, rfl, rfl, by omega, H0.out, cm, cn⟩
  case round =>
    obtain ⟨pre, k, hk, rfl, hpre, hkn, hJ, cm2, cn2⟩ := hrel
    have HK : Hid (k = pre.length * E) := hk
    have HP0 : Hid _ := hpre
    have HN : Hid (k + E = (pre.length + 1) * E) := by show _ = _; rw [HK.out, Nat.add_mul, Nat.one_mul]
    have HP : Hid (∀ h : k + m ≤ n, (pre ++ [(⟨k, h⟩ : Blk m n)]).map (·.1) = (List.range (pre ++ [(⟨k, h⟩ : Blk m n)]).length).map (· * E)) := fun h => by
      rw [List.map_append, List.length_append, List.length_singleton, List.range_succ, List.map_append, hpre]
      simp [hk]
    have hlen0 : Hid (k ≤ n → pre.length < n + 1) := fun h => by
      have : pre.length * 1 ≤ pre.length * E := Nat.mul_le_mul_left _ hE
      omega
    clear hk hpre
    obtain ⟨N, hN⟩ : ∃ N, N + m = n + 1 := ⟨n + 1 - m, by omega⟩
    have hNI : (n : Int) - (m : Int) + 1 = (N : Int) := by omega
    by_cases hkm : k + m ≤ n
    · have hlen := hlen0.out (by omega)
      have hkI : (k : Int) + (m : Int) ≤ (n : Int) := by omega
      obtain ⟨d, hd⟩ : ∃ d, d + k = N := ⟨N - k, by omega⟩
      have hdI : (N : Int) - (k : Int) = (d : Int) := by omega
      by_cases hc : E ≤ d
      · have htl : tl m n E k = E := by unfold tl; omega
        have hcI : (E : Int) ≤ (d : Int) := by omega
        have h := HY.out pre ⟨k, hkm⟩ wr hJ hlen
        simp only [bencs, htl] at h
        obtain ⟨fn, tmps, assign, body, hy, hR⟩ := h
        have hRR : Hid _ := hR
        clear hR
        gi_wp2
        refine ⟨fun h0 => (by cases h0), RoundIn.mono (Hid.out hRR) ?_⟩
        rintro e W3 (⟨rfl, hJ3, hk3⟩ | ⟨rfl, hJx3⟩)
        · have cm3 : W3.cell? ⟨b, 0, none⟩ = some (.int .i64 m) := hk3.1.trans cm2
          have cn3 : W3.cell? ⟨b + 1, 0, none⟩ = some (.int .i64 n) := hk3.2.1.trans cn2
          gi_wp2
          go_roundw
          case rel => exact ⟨pre ++ [⟨k, hkm⟩], k + E, (by rw [List.length_append, List.length_singleton]; exact HN.out), by go_num, HP.out hkm, by omega, hJ3, cm3, cn3⟩
          case measure => simp [intOf]; omega
        · gi_wp2
          refine bodyPost_ret (results_none rfl _ _ _) rfl ?_
          exact ⟨⟨_, rfl⟩, .inr ⟨pre ++ [⟨k, hkm⟩], trivial, hJx3⟩⟩
      · have htl : tl m n E k = d := by unfold tl; omega
        have hcI : (d : Int) < (E : Int) := by omega
        have h := HY.out pre ⟨k, hkm⟩ wr hJ hlen
        simp only [bencs, htl] at h
        obtain ⟨fn, tmps, assign, body, hy, hR⟩ := h
        have hRR : Hid _ := hR
        clear hR
        gi_wp2
        refine ⟨fun h0 => (by cases h0), RoundIn.mono (Hid.out hRR) ?_⟩
        rintro e W3 (⟨rfl, hJ3, hk3⟩ | ⟨rfl, hJx3⟩)
        · have cm3 : W3.cell? ⟨b, 0, none⟩ = some (.int .i64 m) := hk3.1.trans cm2
          have cn3 : W3.cell? ⟨b + 1, 0, none⟩ = some (.int .i64 n) := hk3.2.1.trans cn2
          gi_wp2
          go_roundw
          case rel => exact ⟨pre ++ [⟨k, hkm⟩], k + E, (by rw [List.length_append, List.length_singleton]; exact HN.out), by go_num, HP.out hkm, by omega, hJ3, cm3, cn3⟩
          case measure => simp [intOf]; omega
        · gi_wp2
          refine bodyPost_ret (results_none rfl _ _ _) rfl ?_
          exact ⟨⟨_, rfl⟩, .inr ⟨pre ++ [⟨k, hkm⟩], trivial, hJx3⟩⟩
    · have hkI : (n : Int) < (k : Int) + (m : Int) := by omega
      gi_wp2
      go_end0
      exact ⟨⟨_, rfl⟩, .inl ⟨pre, ⟨HP0.out, by rw [← HK.out]; omega⟩, hJ⟩⟩

end Go.Proofs.YtlogdjhnhnfbkaaDoor

namespace Go.Proofs.YtlogdjhnhnfbkaaDoor
open Go.RowKit Res

@[go_sem] theorem semAt_round (l : Nat) (ρ : Operand → Value) (o : Oper) (h : ∀ c, o.op ≠ .defer c) : Oper.semAt (some l) ρ o = execOp ρ o := Oper.semAt_some l ρ o h

/-! the sums, block by block -/
def flatC (m n E : Nat) (V : Nat → Int) (xs : List (Blk m n)) : List Value := xs.flatMap fun x => cellsOf (fun t => V (x.1 + t)) (tl m n E x.1)
theorem cellsOf_app (V : Nat → Int) (a b : Nat) : cellsOf V a ++ cellsOf (fun t => V (a + t)) b = cellsOf V (a + b) := by
  unfold cellsOf
  rw [List.range_add, List.map_append, List.map_map]
  rfl
theorem flat_range (m n E : Nat) (V : Nat → Int) : ∀ L : Nat, (((List.range L).map (· * E)).flatMap fun s => cellsOf (fun t => V (s + t)) (tl m n E s)) = cellsOf V (min (L * E) (n + 1 - m))
  | 0 => by simp [cellsOf]
  | L + 1 => by
    rw [List.range_succ, List.map_append, List.flatMap_append, flat_range m n E V L, List.map_singleton, List.flatMap_singleton]
    have e : (L + 1) * E = L * E + E := by rw [Nat.add_mul, Nat.one_mul]
    rw [e]
    generalize L * E = q
    unfold tl
    by_cases h : q ≤ n + 1 - m
    · rw [Nat.min_eq_left h, cellsOf_app]
      congr 1
      omega
    · rw [show min E (n + 1 - m - q) = 0 by omega, show min (q + E) (n + 1 - m) = min q (n + 1 - m) by omega]
      simp [cellsOf]
theorem flat_all {m n E : Nat} {xs : List (Blk m n)} (h : AllBlk m n E xs) (V : Nat → Int) : flatC m n E V xs = cellsOf V (n + 1 - m) := by
  have e : flatC m n E V xs = ((xs.map (·.1)).flatMap fun s => cellsOf (fun t => V (s + t)) (tl m n E s)) := by rw [List.flatMap_map]; rfl
  rw [e, h.1, flat_range]
  congr 1
  have := h.2
  omega
theorem flat_snoc (m n E : Nat) (V : Nat → Int) (pre : List (Blk m n)) (x : Blk m n) : flatC m n E V (pre ++ [x]) = flatC m n E V pre ++ cellsOf (fun t => V (x.1 + t)) (tl m n E x.1) := by
  unfold flatC; rw [List.flatMap_append, List.flatMap_singleton]
theorem flat_len (m n E : Nat) (V : Nat → Int) (pre : List (Blk m n)) : (flatC m n E V pre).length ≤ pre.length * E := by
  induction pre with
  | nil => simp [flatC]
  | cons x pre ih =>
    have e : (flatC m n E V (x :: pre)).length = tl m n E x.1 + (flatC m n E V pre).length := by simp [flatC, cellsOf]
    rw [e, List.length_cons, Nat.add_mul, Nat.one_mul]
    have : tl m n E x.1 ≤ E := Nat.min_le_left _ _
    omega

theorem owns_below {w w' : World} {base e size k : Nat} {v : Value} {xs : List Value} (h : w.ownsRow base e size v k xs) (hb : Below w.heap.size w w') : w'.ownsRow base e size v k xs := by
  refine ⟨h.1, ?_⟩
  rcases h.2 with h0 | ⟨g, cap, cur, hv, hg, hc, h1⟩
  · exact .inl h0
  · exact .inr ⟨g, cap, cur, hv, hg, (hb.block g (Array.getElem?_eq_some_iff.1 hc).1).trans hc, h1⟩
theorem boxed_below {w w' : World} {B : Nat} {t : TypeId} {v : Value} (h : Boxed w B t v) (hb : Below w.heap.size w w') : Boxed w' B t v := (hb.block B h.lt).trans h
theorem keeps_below {w w' : World} (hb : Below w.heap.size w w') : KeepsOthers w w' := ⟨hb.size, fun k _ hk _ => (hb.block k (Array.getElem?_eq_some_iff.1 hk).1).trans hk⟩
theorem own_self {w : World} {base e size k : Nat} {v : Value} {xs : List Value} (h : w.ownsRow base e size v k xs) (hk : k = 0 ∧ xs = [] → False) : ∃ g cap, v = .slice (some ⟨g, 0, none⟩) k cap := by
  rcases h.2 with ⟨_, h0⟩ | ⟨g, cap, cur, hv, _⟩
  · exact absurd ⟨h0, by have := h.1; rw [h0, Nat.zero_mul] at this; exact List.eq_nil_of_length_eq_zero this⟩ hk
  · exact ⟨g, cap, hv⟩

/-- A box for three slices that are not there yet. -/
structure Bare (w : World) (b : Nat) : Prop where
  lt : b < w.heap.size
  cell : ∀ k, k < 3 → w.cell? ⟨b, k, none⟩ = some (.slice none 0 0)
  wrt : Wrt w b 0 3
theorem Bare.below {w w' : World} {b : Nat} (h : Bare w b) (hb : Below w.heap.size w w') : Bare w' b :=
  ⟨Nat.lt_of_lt_of_le h.lt hb.size, fun k hk => (hb.cell (p := ⟨b, k, none⟩) h.lt).trans (h.cell k hk), h.wrt.below hb h.lt⟩
theorem bare_new (w : World) (ty : TypeId) : ∃ v, v = w.alloc (.cells #[.slice none 0 0, .slice none 0 0, .slice none 0 0] ty) ∧ Bare v w.heap.size ∧ Below w.heap.size w v := by
  obtain ⟨v, h1, h2, h3, h4, h5⟩ := bare_box w ty
  exact ⟨v, h1, ⟨h5, h2, h3⟩, h4⟩
theorem bare_set {W v : World} {b S : Nat} {R : Nat → Nat} {Z : Nat → Nat → Int} (h : Bare v b) (hS : 1 ≤ S) (tr : Trio v R S Z) (hb : Below W.heap.size W v) (hle : W.heap.size ≤ b) :
    ∃ w', w' = (((v.setCell ⟨b, 0, none⟩ (.slice (some ⟨R 0, 0, none⟩) S S)).setCell ⟨b, 1, none⟩ (.slice (some ⟨R 1, 0, none⟩) S S)).setCell ⟨b, 2, none⟩ (.slice (some ⟨R 2, 0, none⟩) S S)) ∧
      (∀ k, k < 3 → w'.cell? ⟨b, k, none⟩ = some (.slice (some ⟨R k, 0, none⟩) S S)) ∧ Trio w' R S Z ∧ Below W.heap.size W w' := by
  refine ⟨_, rfl, fun k hk => ?_, fun k hk => ?_, below_three hb hle _ _ _⟩
  · obtain ⟨c0, c1, c2⟩ := set3_cells (.slice (some ⟨R 0, 0, none⟩) S S) (.slice (some ⟨R 1, 0, none⟩) S S) (.slice (some ⟨R 2, 0, none⟩) S S) (h.cell 0 (by omega)) (h.cell 1 (by omega)) (h.cell 2 (by omega))
    have : k = 0 ∨ k = 1 ∨ k = 2 := by omega
    rcases this with rfl | rfl | rfl <;> assumption
  · refine ⟨(tr k hk).1.three_set (fun e => ?_) _ _ _, by rw [size_three]; exact (tr k hk).2⟩
    have h1 := (tr k hk).1.zero 0 (by omega)
    rw [e, h.cell 0 (by omega)] at h1
    cases h1

theorem cell_grown {w w' : World} {row : Option Nat} (hg : w.grownBy w' row) {b : Nat} (o : Nat) (hb : b < w.heap.size) (hne : some b ≠ row) : w'.cell? ⟨b, o, none⟩ = w.cell? ⟨b, o, none⟩ := by
  unfold World.cell?
  rw [hg.block b hb hne]
theorem boxed_set_ne {w : World} {B B' : Nat} {t : TypeId} {v u : Value} (h : Boxed w B t v) (hne : B ≠ B') : Boxed (w.setCell ⟨B', 0, none⟩ u) B t v := h.kept (grownBy_setCell' w B' u) (fun e => hne (by simpa using e))
/-- A row is appended to what a box holds: all that the round owes. -/
theorem append_row {W wd : World} {B7 B8 k r g b b' : Nat} {xs : List Value} {v : Value} {F : Nat → Int} (bx : Boxed W B8 82 v) (own : W.ownsRow B7 49 1 v k xs) (hb : Below W.heap.size W wd) (h7 : B7 ≤ W.heap.size) (h8 : B7 ≤ B8) (hf : Fam wd g 0 r F) (hr : 1 ≤ r) (hlen : (k + r) * 8 ≤ 140737488355328) (hbb : W.heap.size ≤ b) (hbd : b < wd.heap.size) (hb' : b' < B7) :
    ∃ g' cap we, (Builtin.append_ #[82, 82] 82 #[v, .slice (some ⟨g, 0, none⟩) r r]).run Tryd.prog wd = .ok (.slice (some ⟨g', 0, none⟩) (k + r) cap) we ∧ we.cell? ⟨B8, 0, none⟩ = some v ∧ we.frozen? ⟨B8, 0, none⟩ = false ∧ (∀ o, we.cell? ⟨b, o, none⟩ = wd.cell? ⟨b, o, none⟩) ∧ (∀ o, we.cell? ⟨b', o, none⟩ = wd.cell? ⟨b', o, none⟩) ∧
      ∀ wf, wf = we.setCell ⟨B8, 0, none⟩ (.slice (some ⟨g', 0, none⟩) (k + r) cap) → Boxed wf B8 82 (.slice (some ⟨g', 0, none⟩) (k + r) cap) ∧ wf.ownsRow B7 49 1 (.slice (some ⟨g', 0, none⟩) (k + r) cap) (k + r) (xs ++ cellsOf F r) ∧ KeepsOthers W wf ∧ Below B7 W wf ∧ (∀ (c : Nat) (u : Value), c ≠ B8 → Boxed W c 3 u → Boxed wf c 3 u) ∧ (∀ o, wf.cell? ⟨b, o, none⟩ = wd.cell? ⟨b, o, none⟩) ∧ (∀ o, wf.cell? ⟨b', o, none⟩ = wd.cell? ⟨b', o, none⟩) := by
  obtain ⟨i0, hi, hz0, hz1, hz2⟩ := info_parts infoU
  have bxd := boxed_below bx hb
  have ownd := owns_below own hb
  obtain ⟨v', we, hrun, own', grow, _, _⟩ := run_append_own_at (P := Tryd.prog) wd B7 82 82 49 i0 (.int .u64 0) 1 8 Tryd.underlying82 hi hz0 hz1 hz2 rfl (by decide) v k xs ownd ⟨g, 0, none⟩ r r (cellsOf F r) (by simp [cellsOf]) (cells_at hf) (cells_one F r) (by unfold maxLen; omega) hlen (Nat.le_trans h7 hb.size)
  obtain ⟨g', cap, rfl⟩ := own_self own' (fun h => by omega)
  have bxe : Boxed we B8 82 v := bxd.kept grow (bxd.not_row (by decide) ownd)
  have hob : ∀ c, v.ownBlock = some c → B7 ≤ c ∧ c < W.heap.size := fun c hc => World.ownsRow.lt own c hc
  have n1 : some b ≠ v.ownBlock := fun e => by have := hob b e.symm; omega
  have n2 : some b' ≠ v.ownBlock := fun e => by have := hob b' e.symm; omega
  have h8W : B8 < W.heap.size := bx.lt
  have q1 : ∀ o, we.cell? ⟨b, o, none⟩ = wd.cell? ⟨b, o, none⟩ := fun o => cell_grown grow o hbd n1
  have q2 : ∀ o, we.cell? ⟨b', o, none⟩ = wd.cell? ⟨b', o, none⟩ := fun o => cell_grown grow o (by have := hb.size; omega) n2
  refine ⟨g', cap, we, hrun, bxe.cell, bxe.frozen, q1, q2, fun wf e => ?_⟩
  subst e
  have bxf := bxe.set (.slice (some ⟨g', 0, none⟩) (k + r) cap)
  refine ⟨bxf, own'.kept (grownBy_setCell' we B8 _) (.inr (bxe.not_row (by decide) own').symm), ?_, ?_, fun c u hc hu => ?_, fun o => ?_, fun o => ?_⟩
  · refine (keeps_below hb).trans ((KeepsOthers.of_grownBy grow fun j o ej hj => ?_).trans (KeepsOthers.setCell _ _ _))
    rcases ownd.2 with ⟨rfl, _⟩ | ⟨g0, cap0, cur, rfl, _, hgb, _⟩
    · simp [Value.ownBlock] at ej
    · obtain rfl : g0 = j := by simpa [Value.ownBlock] using ej
      rw [hgb] at hj; cases hj; rfl
  · exact ((hb.mono h7).grown grow (Nat.le_trans h7 hb.size) (fun j ej => (hob j ej).1)).setCell (p := ⟨B8, 0, none⟩) h8 _
  · have hud := boxed_below hu hb
    exact boxed_set_ne (hud.kept grow (hud.not_row (by decide) ownd)) hc
  · rw [cell_setCell_ne _ _ _ _ _ _ (Or.inl (by omega))]; exact q1 o
  · rw [cell_setCell_ne _ _ _ _ _ _ (Or.inl (by omega))]; exact q2 o

theorem turned_row {w4 w5 : World} {g n S : Nat} {P : Nat → Int} (f5 : Fam w5 g 0 n (fun t => pd n P (n - 1 - t))) (f4 : Fam w4 g 0 S (pd n P)) (o5 : Wrote (fun b o => b = g ∧ o < n) w4 w5) : Fam w5 g 0 S (pd n (fun j => P (n - 1 - j))) := fun t ht => by
  by_cases h : t < n
  · have e : pd n (fun j => P (n - 1 - j)) t = pd n P (n - 1 - t) := by unfold pd; rw [if_pos h, if_pos (by omega)]
    rw [e]; exact f5 t h
  · have e : pd n (fun j => P (n - 1 - j)) t = pd n P t := by unfold pd; rw [if_neg h, if_neg h]
    rw [e]; exact (o5.cell _ _ (by omega)).trans (f4 t ht)

set_option maxRecDepth 100000 in
set_option maxHeartbeats 4000000 in
theorem bcor_row (pb pof tb tof n m ca cb l S : Nat) (h1 : 1 ≤ n) (h2 : n ≤ m) (hm : m ≤ 1000000) (hS : S = 2 ^ l) (hl : l ≤ 12) (hnS : n ≤ S) (hcb : m ≤ cb) (P T : Nat → Int) (hP0 : ∀ t, 0 ≤ P t) (hT0 : ∀ t, 0 ≤ T t) (hP1 : ∀ t, P t ≤ 18446744073709551615) (hT1 : ∀ t, T t ≤ 18446744073709551615) (hok : ¬ 18446744073709551616 ≤ gr n P * gr m T * (n : Int)) (w : World) (hT : Tab w) (fp : Fam w pb pof n P) (ft : Fam w tb tof m T) :
    Calls Tryd.prog 56 #[.slice (some ⟨pb, pof, none⟩) n ca, .slice (some ⟨tb, tof, none⟩) m cb, .int .i64 (S : Int)] w fun e w' =>
      ∃ g cap, e = .returned (.tuple #[.slice (some ⟨g, 0, none⟩) (m + 1 - n) cap, .int .i64 (ct n m S), .int .i64 0]) ∧ Fam w' g 0 (m + 1 - n) (cr n P T) ∧ Below w.heap.size w w' ∧ m + 1 - n ≤ cap := by
  have hle : S ≤ 4096 := by rw [hS]; exact Nat.pow_le_pow_right (by omega) hl
  have hsI : (S : Int) = 2 ^ l := by rw [hS, Int.natCast_pow]; rfl
  have hz : szb n S = true := szb_of hl hsI (by omega)
  have hbc : bc n m P T S = 0 := bc_ok (by omega) hz hok
  have hpl : pb < w.heap.size := fp.lt (by omega)
  have htl : tb < w.heap.size := ft.lt (by omega)
  -- the boxes of t and of size
  obtain ⟨w1, x1⟩ := boxS w (.slice (some ⟨tb, tof, none⟩) m cb) 82
  obtain ⟨w2, x2⟩ := boxS w1 (.int .i64 (S : Int)) 3
  have z1 : w.heap.size + 1 = w1.heap.size := by rw [x1.eq, size_alloc]
  have b2 : Below w.heap.size w w2 := x1.bel.trans (x2.bel.mono (by omega))
  have c1 : Hid _ := bcheck_any (some ⟨pb, pof, none⟩) (some ⟨tb, tof, none⟩) n m ca cb (S : Int) (by omega) (by omega) P T hP1 hT1 w2 (fun _ => ⟨pb, pof, rfl, fp.below b2 hpl⟩) (fun _ => ⟨tb, tof, rfl, ft.below b2 htl⟩)
  rw [hbc] at c1
  have E1 : Hid _ := x1.eq
  have E2 : Hid _ := x2.eq
  have Z1 : Hid _ := z1
  have ct2 : w2.cell? ⟨w.heap.size, 0, none⟩ = some (.slice (some ⟨tb, tof, none⟩) m cb) := (x2.bel.cell (p := ⟨w.heap.size, 0, none⟩) x1.size).trans x1.cell
  have cs2 : w2.cell? ⟨w1.heap.size, 0, none⟩ = some (.int .i64 (S : Int)) := x2.cell
  have y1 : w.heap.size < w1.heap.size := x1.size
  have y2 : w1.heap.size < w2.heap.size := x2.size
  obtain ⟨w3, e3⟩ : ∃ w3, w3 = (w2.alloc (.cells #[.int .i64 (n : Int)] 3)).drew := ⟨_, rfl⟩
  have E3 : Hid _ := e3
  have b3 : Below w2.heap.size w2 w3 := by rw [e3]; exact ((Below.refl _ _).alloc (Nat.le_refl _) _).drew
  have y3 : w2.heap.size < w3.heap.size := by rw [e3]; show _ < (w2.alloc _).heap.size; rw [size_alloc]; omega
  have cm3 : w3.cell? ⟨w2.heap.size, 0, none⟩ = some (.int .i64 (n : Int)) := by rw [e3]; exact (Boxed.new w2 3 (.int .i64 (n : Int))).cell
  have ct3 : w3.cell? ⟨w.heap.size, 0, none⟩ = some (.slice (some ⟨tb, tof, none⟩) m cb) := (b3.cell (p := ⟨w.heap.size, 0, none⟩) (by show w.heap.size < _; omega)).trans ct2
  have cs3 : w3.cell? ⟨w1.heap.size, 0, none⟩ = some (.int .i64 (S : Int)) := (b3.cell (p := ⟨w1.heap.size, 0, none⟩) (by show w1.heap.size < _; omega)).trans cs2
  have B03 : Hid (Below w.heap.size w w3) := b2.trans (b3.mono (by omega))
  have T3 : Tab w3 := hT.below B03.out (tab_lt hT)
  have c2 : Hid _ := slides_yes n m (by omega) (by omega) w3
  have c3 : Hid _ := bwidened_row pb pof n ca S hle P w3 (fp.below B03.out hpl)
  have Ft : Hid (Fam w tb tof m T) := ft
  refine callsIn_wide.1 (callsIn_of_wp_marks (n := 9) Tryd.func56 rfl trivial ?_ rfl)
  refine wpIn_wide.2 ?_
  simp only [Tryd.ntmps56, List.size_toArray, List.length_cons, List.length_nil, Nat.reduceAdd, Nat.reduceSub, Array.replicate_succ, Array.replicate_zero, List.push_toArray, List.append_toArray, List.nil_append, List.cons_append]
  have HS2 : Hid (S = 2 ^ l) := hS
  have Hok : Hid _ := hok
  clear z1 x1 x2 hok hS hsI hz hbc e3 b3 b2 fp ft
  go_wp2_with fail
  rw [← E1.out, ← E2.out, Z1.out]
  refine Calls.mono (Hid.out c1) ?_; rintro e w' ⟨rfl, hw'⟩; subst w'
  clear E1 E2 Z1 c1
  generalize w1.heap.size = B1 at *
  go_wp2_with fail
  have nn : w2.heap.size ≠ w.heap.size := by omega
  go_region_held3 (fun w' => w'.cell? ⟨w.heap.size, 0, none⟩ = some (.slice (some ⟨tb, tof, none⟩) m cb)) (go_keep) (fail)
  rw [← E3.out]
  clear E3 nn
  generalize w2.heap.size = B2 at *
  go_wp2_with fail
  refine Calls.mono (Hid.out c2) ?_; rintro e w' ⟨rfl, hw'⟩; subst w'
  go_wp2_with fail
  refine Calls.mono (Hid.out c3) ?_; rintro e w4 ⟨rfl, f4, r4, b4, s4⟩
  have T4 : Tab w4 := T3.below b4 (tab_lt T3)
  have ct4 : w4.cell? ⟨w.heap.size, 0, none⟩ = some (.slice (some ⟨tb, tof, none⟩) m cb) := (b4.cell (p := ⟨w.heap.size, 0, none⟩) (by show w.heap.size < _; omega)).trans ct3
  have cs4 : w4.cell? ⟨B1, 0, none⟩ = some (.int .i64 (S : Int)) := (b4.cell (p := ⟨B1, 0, none⟩) (by show B1 < _; omega)).trans cs3
  have cm4 : w4.cell? ⟨B2, 0, none⟩ = some (.int .i64 (n : Int)) := (b4.cell (p := ⟨B2, 0, none⟩) (by show B2 < _; omega)).trans cm3
  have B04 : Hid (Below w.heap.size w w4) := B03.out.trans (b4.mono (by omega))
  have c4 : Hid _ := reverse_row w3.heap.size n S h1 (by omega) (pd n P) w4 (f4.head n hnS) (r4.head n hnS)
  have F4 : Hid (Fam w4 w3.heap.size 0 S (pd n P)) := f4
  have hnSI : (n : Int) ≤ (S : Int) := by omega
  clear f4 r4 b4 c3 c2
  generalize hB3 : w3.heap.size = B3 at *
  clear hB3
  go_wp2_with fail
  refine Calls.mono (Hid.out c4) ?_; rintro e w5 ⟨⟨v5, rfl⟩, f5, o5⟩
  have F5 : Fam w5 B3 0 S (pd n (fun j => P (n - 1 - j))) := turned_row f5 F4.out o5
  have b5 : Below B3 w4 w5 := o5.below (fun b o e => by omega)
  have z5 : w5.heap.size = w4.heap.size := o5.size
  have T5 : Tab w5 := T4.wrote o5 (fun o e => by have := tab_lt hT; omega)
  have ct5 : w5.cell? ⟨w.heap.size, 0, none⟩ = some (.slice (some ⟨tb, tof, none⟩) m cb) := (b5.cell (p := ⟨w.heap.size, 0, none⟩) (by show w.heap.size < _; omega)).trans ct4
  have cs5 : w5.cell? ⟨B1, 0, none⟩ = some (.int .i64 (S : Int)) := (b5.cell (p := ⟨B1, 0, none⟩) (by show B1 < _; omega)).trans cs4
  have cm5 : w5.cell? ⟨B2, 0, none⟩ = some (.int .i64 (n : Int)) := (b5.cell (p := ⟨B2, 0, none⟩) (by show B2 < _; omega)).trans cm4
  have B05 : Hid (Below w.heap.size w w5) := B04.out.trans (b5.mono (by omega))
  have c5 : Hid _ := bforward_any l S HS2.out hl B3 0 S _ (pd_nonneg fun t => hP0 _) w5 T5 F5
  have y5 : B3 < w5.heap.size := by omega
  clear f5 o5 F4 F5 b5 z5 c4 T4 ct4 cs4 cm4 B04
  go_wp2_with fail
  refine Calls.mono (Hid.out c5) ?_; rintro e w6 ⟨G, rfl, tr6, b6⟩
  obtain ⟨w7, x7⟩ := boxR w6 G S 103
  have b7 : Below w5.heap.size w5 w7 := b6.trans (x7.bel.mono b6.size)
  have y6 : w5.heap.size ≤ w6.heap.size := b6.size
  have y7 : w6.heap.size < w7.heap.size := by have := x7.size; omega
  have T7 : Tab w7 := T5.below b7 (tab_lt T5)
  have ct7 : w7.cell? ⟨w.heap.size, 0, none⟩ = some (.slice (some ⟨tb, tof, none⟩) m cb) := (b7.cell (p := ⟨w.heap.size, 0, none⟩) (by show w.heap.size < _; omega)).trans ct5
  have cs7 : w7.cell? ⟨B1, 0, none⟩ = some (.int .i64 (S : Int)) := (b7.cell (p := ⟨B1, 0, none⟩) (by show B1 < _; omega)).trans cs5
  have cm7 : w7.cell? ⟨B2, 0, none⟩ = some (.int .i64 (n : Int)) := (b7.cell (p := ⟨B2, 0, none⟩) (by show B2 < _; omega)).trans cm5
  have B07 : Hid (Below w.heap.size w w7) := B05.out.trans (b7.mono (by omega))
  have TR7 : Hid (Trio w7 G S (fun k => dft k (rt k l) S (pd n (fun j => P (n - 1 - j))))) := tr6.below x7.bel (Nat.le_refl _)
  have KP7 : Hid (∀ k, k < 3 → w7.cell? ⟨w6.heap.size, k, none⟩ = some (.slice (some ⟨G k, 0, none⟩) S S)) := x7.cell
  have E7 : Hid _ := x7.eq
  obtain ⟨N, hN⟩ : ∃ N, N + n = m + 1 := ⟨m + 1 - n, by omega⟩
  have hNI : (m : Int) - (n : Int) + 1 = (N : Int) := by omega
  obtain ⟨i0, hi, hz0, hz1, hz2⟩ := info_parts infoU
  obtain ⟨w8, hmk, own8, g8⟩ := run_make_own (P := Tryd.prog) w7 w7.heap.size 82 49 i0 (.int .u64 0) 1 Tryd.underlying82 hi hz0 hz1 .i64 .i64 N (by rw [hz2]; omega) (by unfold maxLen; omega) (Nat.le_refl _)
  have b8 : Below w7.heap.size w7 w8 := (Below.refl _ _).grown g8 (Nat.le_refl _) (fun k e => by cases e)
  obtain ⟨w9, x9⟩ : ∃ w9, w9 = w8.alloc (.cells #[.slice (some ⟨w7.heap.size, 0, none⟩) 0 N] 82) := ⟨_, rfl⟩
  have E9 : Hid _ := x9
  have bx9 : Boxed w9 w8.heap.size 82 (.slice (some ⟨w7.heap.size, 0, none⟩) 0 N) := by rw [x9]; exact Boxed.new _ _ _
  have own9 : w9.ownsRow w7.heap.size 49 1 (.slice (some ⟨w7.heap.size, 0, none⟩) 0 N) 0 [] := by rw [x9]; exact own8.alloc _
  have b9 : Below w7.heap.size w7 w9 := by rw [x9]; exact b8.alloc b8.size _
  have y8 : w7.heap.size < w8.heap.size := (World.ownsRow.lt own8 w7.heap.size rfl).2
  have y9 : w8.heap.size < w9.heap.size := by rw [x9, size_alloc]; omega
  have ct9 : w9.cell? ⟨w.heap.size, 0, none⟩ = some (.slice (some ⟨tb, tof, none⟩) m cb) := (b9.cell (p := ⟨w.heap.size, 0, none⟩) (by show w.heap.size < _; omega)).trans ct7
  have cs9 : w9.cell? ⟨B1, 0, none⟩ = some (.int .i64 (S : Int)) := (b9.cell (p := ⟨B1, 0, none⟩) (by show B1 < _; omega)).trans cs7
  have cm9 : w9.cell? ⟨B2, 0, none⟩ = some (.int .i64 (n : Int)) := (b9.cell (p := ⟨B2, 0, none⟩) (by show B2 < _; omega)).trans cm7
  have c7 : Hid _ := blocks_any n m S w9
  have W7 : Hid (And (Boxed w9 w8.heap.size 82 (.slice (some ⟨w7.heap.size, 0, none⟩) 0 N)) (w9.ownsRow w7.heap.size 49 1 (.slice (some ⟨w7.heap.size, 0, none⟩) 0 N) 0 [])) := ⟨bx9, own9⟩
  have B9 : Hid (Below w7.heap.size w7 w9) := b9
  have hnm : (n : Int) ≤ (m : Int) := by omega
  have cm7r : (w6.alloc (.cells #[.slice (some ⟨G 0, 0, none⟩) S S, .slice (some ⟨G 1, 0, none⟩) S S, .slice (some ⟨G 2, 0, none⟩) S S] 103)).cell? ⟨B2, 0, none⟩ = some (.int .i64 (n : Int)) := by rw [← E7.out]; exact cm7
  have hmkr : (Instr.makeSlice 82 (.int .i64 0) (.int .i64 (N : Int))).run Tryd.prog (w6.alloc (.cells #[.slice (some ⟨G 0, 0, none⟩) S S, .slice (some ⟨G 1, 0, none⟩) S S, .slice (some ⟨G 2, 0, none⟩) S S] 103)) = .ok (.slice (some ⟨w7.heap.size, 0, none⟩) 0 N) w8 := by rw [← E7.out]; exact hmk
  have cs9r : (w8.alloc (.cells #[.slice (some ⟨w7.heap.size, 0, none⟩) 0 N] 82)).cell? ⟨B1, 0, none⟩ = some (.int .i64 (S : Int)) := by rw [← E9.out]; exact cs9
  have cm9r : (w8.alloc (.cells #[.slice (some ⟨w7.heap.size, 0, none⟩) 0 N] 82)).cell? ⟨B2, 0, none⟩ = some (.int .i64 (n : Int)) := by rw [← E9.out]; exact cm9
  clear tr6 b6 x7 b7 g8 b8 own8 x9 bx9 own9 b9 c5 ct5 cs5 cm5 T5 hmk E7
  go_wp2_with fail
  rw [← E9.out]
  refine Calls.mono (Hid.out c7) ?_; rintro e w10 ⟨rfl, q1, q2, q3, b10, z10⟩
  clear cm7r hmkr cs9r cm9r E9 c7
  go_wp2_with fail
  obtain ⟨E, hE⟩ : ∃ E, E + n = S + 1 := ⟨S + 1 - n, by omega⟩
  have B10 : Hid (Below w7.heap.size w7 w10) := B9.out.trans (b10.mono (by omega))
  have bx10 := boxed_below W7.out.1 b10
  have own10 := owns_below W7.out.2 b10
  obtain ⟨V, hV⟩ : ∃ V : Nat → Int, V = cr n P T := ⟨_, rfl⟩
  have hseq := blocks_stops (9 - 1) n m E w9.heap.size (S : Int) (by omega) hm (by omega) (by omega) (by omega) h2 (by omega) w10 (by omega) q1.cell q2.cell q3.cell
  have HV : Hid (V = cr n P T) := hV
  clear hV
  generalize hB6 : w6.heap.size = B6 at *
  generalize hB7 : w7.heap.size = B7 at *
  generalize hB8 : w8.heap.size = B8 at *
  generalize hB9 : w9.heap.size = B9' at *
  refine (wpIn_wide (n := 9)).1 ?_
  refine' wpIn_rangeFunc_ownF (F := Fence.wide) (n := 9) rfl (by omega) (gf := 88) (lb := #[.pointer (some ⟨B9' + 1 + 1, 0, none⟩), .pointer (some ⟨B9', 0, none⟩), .pointer (some ⟨B9' + 1, 0, none⟩)]) rfl trivial (enters_of Tryd.func88 (by kernel_rfl) rfl) hseq (fun h k => h.trans k)
    (fun W l o o' hl h hc hw => have B := belowK_b (n₀ := w10.heap.size) (w := w10) (Nat.le_refl _) W l o o' hl h hc hw; ⟨B.cell (p := ⟨B9', 0, none⟩) (by show B9' < _; omega), B.cell (p := ⟨B9' + 1, 0, none⟩) (by show B9' + 1 < _; omega), B.cell (p := ⟨B9' + 1 + 1, 0, none⟩) (by show B9' + 1 + 1 < _; omega)⟩)
    (Below.refl _ _) (fun _ => rfl)
    (fun pre W => ((∃ v, Boxed W B8 82 v ∧ W.ownsRow B7 49 1 v (flatC n m E V pre).length (flatC n m E V pre) ∧ True) ∧ (Boxed W B9' 3 (.int .i64 (n : Int)) ∧ (Boxed W (B9' + 1) 3 (.int .i64 (m : Int)) ∧ Boxed W (B9' + 1 + 1) 3 (.int .i64 (S : Int))))) ∧ Below B7 w7 W)
    (fun _ _ _ => False)
    (OwnFrom.and (OwnFrom.and (Go.Own.from (holdsRow_own B7 B8 82 49 1 (fun pre => (flatC n m E V pre).length) (fun pre => flatC n m E V pre) (fun _ _ => True)) _) (OwnFrom.and (Go.Own.from (boxed_own _ _ (fun _ => .int .i64 (n : Int))) _) (OwnFrom.and (Go.Own.from (boxed_own _ _ (fun _ => .int .i64 (m : Int))) _) (Go.Own.from (boxed_own _ _ (fun _ => .int .i64 (S : Int))) _)))) (ownFrom_below (by omega) (by omega)))
    (fun c s A B row hs hg hr => hs)
    ⟨⟨⟨_, bx10, own10, trivial⟩, q1, q2, q3⟩, B10.out⟩ _ ?assign ?body ?done ?stop
  case assign =>
    intro l x W K hK
    gi_wp2
    exact hK
  case stop =>
    rintro D c pre W _ _ h _
    exact h.elim
  case done =>
    rintro D xs W hD hS ⟨⟨⟨v, bx, own, _⟩, _⟩, bW⟩ hK
    have ef := flat_all hS V
    rw [ef, show (cellsOf V (m + 1 - n)).length = N by simp [cellsOf]; omega, show m + 1 - n = N by omega] at own
    obtain ⟨g, cap, rfl⟩ := own_self own (fun h => by omega)
    have cmW : W.cell? ⟨B2, 0, none⟩ = some (.int .i64 (n : Int)) := (bW.cell (p := ⟨B2, 0, none⟩) (by show B2 < _; omega)).trans cm7
    have csW : W.cell? ⟨B1, 0, none⟩ = some (.int .i64 (S : Int)) := (bW.cell (p := ⟨B1, 0, none⟩) (by show B1 < _; omega)).trans cs7
    have c8W : W.cell? ⟨B8, 0, none⟩ = some (.slice (some ⟨g, 0, none⟩) N cap) := bx.cell
    have cc : Hid _ := fun v => count_any n m S v
    have HO : Hid _ := own
    have HB : Hid _ := bW
    have HK : Hid _ := hK
    clear own bW hK bx ef hS hseq
    go_wp2_with fail
    go_quiet ((go_at_call 53; exact Calls.quiet_of_same (cc.out _)))
    go_wp2_with fail
    have hKd : (W.drewN nq).heap[D]? = some (.deferred (some [])) := HK.out
    refine ⟨by simp, .inl ⟨_, _, rfl, run_takeDeferred hKd, ?_⟩⟩
    have hOd : (W.drewN nq).ownsRow B7 49 1 (.slice (some ⟨g, 0, none⟩) N cap) N (cellsOf V N) := HO.out
    have own' : Own ((W.drewN nq).putObj D (.deferred none)) B7 (.slice (some ⟨g, 0, none⟩) N cap) N V := ownsRow_putObj hOd _ hKd rfl
    obtain ⟨g', cap', e, _, _, hf, _⟩ := own_fam own' (by omega)
    cases e
    obtain ⟨_, _, _, e, _, _, hcp, _⟩ := own'.2.resolve_left (fun h => by omega)
    cases e
    refine ⟨_, results_tmp3 rfl _ _ _, g, cap, ?_, ?_, ?_, ?_⟩
    · rw [show m + 1 - n = N by omega]; rfl
    · rw [show m + 1 - n = N by omega, ← HV.out]; exact hf
    · exact (below_drewN (B07.out.trans (HB.out.mono (by omega))) nq).trans (belowK_b (w := w10) (by omega) _ _ _ _ hD hKd rfl rfl)
    · omega
  case body =>
    rintro lp pre x W ⟨⟨⟨v, bx, own, _⟩, k1, k2, k3⟩, bW⟩ hlen
    obtain ⟨s, hs⟩ := x
    dsimp only
    obtain ⟨r, hr⟩ : ∃ r, r = tl n m E s := ⟨_, rfl⟩
    rw [← hr]
    have hr1 : 1 ≤ r := by rw [hr]; unfold tl; omega
    have hr2 : r ≤ E := by rw [hr]; unfold tl; omega
    have hr3 : r + s + n ≤ m + 1 := by rw [hr]; unfold tl; omega
    obtain ⟨d, hd⟩ : ∃ d, d + s = m := ⟨m - s, by omega⟩
    obtain ⟨p, hp⟩ : ∃ p, p + 1 = n := ⟨n - 1, by omega⟩
    have hSz : 1 ≤ S := by omega
    have hWs : B7 ≤ W.heap.size := by rw [← hB7]; exact bW.size
    have HW : Hid (∀ v, Below W.heap.size W v → Below B7 w7 v) := fun v hv => bW.trans (hv.mono hWs)
    have hU : Hid (∀ v, Below W.heap.size W v → (v.cell? ⟨B6, 0, none⟩ = some (.slice (some ⟨G 0, 0, none⟩) S S) ∧ v.cell? ⟨B6, 1, none⟩ = some (.slice (some ⟨G 1, 0, none⟩) S S) ∧ v.cell? ⟨B6, 2, none⟩ = some (.slice (some ⟨G 2, 0, none⟩) S S) ∧ v.cell? ⟨w.heap.size, 0, none⟩ = some (.slice (some ⟨tb, tof, none⟩) m cb) ∧ v.cell? ⟨B1, 0, none⟩ = some (.int .i64 (S : Int)))) := fun v hv => by
      have h := HW.out v hv
      exact ⟨(h.cell (p := ⟨B6, 0, none⟩) (by show B6 < _; omega)).trans (KP7.out 0 (by omega)), (h.cell (p := ⟨B6, 1, none⟩) (by show B6 < _; omega)).trans (KP7.out 1 (by omega)), (h.cell (p := ⟨B6, 2, none⟩) (by show B6 < _; omega)).trans (KP7.out 2 (by omega)), (h.cell (p := ⟨w.heap.size, 0, none⟩) (by show w.heap.size < _; omega)).trans ct7, (h.cell (p := ⟨B1, 0, none⟩) (by show B1 < _; omega)).trans cs7⟩
    obtain ⟨U, hUd⟩ : ∃ U : Nat → Int, U = pd d (fun t => T (s + t)) := ⟨_, rfl⟩
    have hU0 : ∀ t, 0 ≤ U t := fun t => by rw [hUd]; exact pd_nonneg (fun t => hT0 _) t
    obtain ⟨DU, hDU⟩ : ∃ DU : Nat → Nat → Int, DU = fun (k : Nat) => dft k (rt k l) S U := ⟨_, rfl⟩
    obtain ⟨Z, hZ⟩ : ∃ Z : Nat → Nat → Int, Z = fun (k : Nat) => cyc k S (pd n (fun j => P (n - 1 - j))) U := ⟨_, rfl⟩
    have hlt7 : 1 < B7 := by rw [← hB7]; exact tab_lt T7
    have c8 : Hid (∀ (v : World) (c : Nat), Below W.heap.size W v → Calls Tryd.prog 73 #[.slice (some ⟨tb, tof + s, none⟩) d c, .int .i64 (S : Int)] v fun e w' => e = .returned (.slice (some ⟨v.heap.size, 0, none⟩) S S) ∧ Fam w' v.heap.size 0 S U ∧ Below v.heap.size v w') := fun v c hv => by
      have h1 : Fam w7 tb tof m T := Ft.out.below B07.out htl
      have h2 := (h1.below (HW.out v hv) (by omega)).part s d (by omega)
      exact (bwidened_row tb (tof + s) d c S hle _ v h2).mono fun e w' ⟨q1, q2, _, q3, _⟩ => ⟨q1, by rw [hUd]; exact q2, q3⟩
    have c9 : Hid (∀ (v : World) (g : Nat), Below W.heap.size W v → Fam v g 0 S U → Calls Tryd.prog 75 #[.slice (some ⟨g, 0, none⟩) S S] v fun e w' => ∃ H : Nat → Nat, e = .returned (.agg #[.slice (some ⟨H 0, 0, none⟩) S S, .slice (some ⟨H 1, 0, none⟩) S S, .slice (some ⟨H 2, 0, none⟩) S S]) ∧ Trio w' H S DU ∧ Below v.heap.size v w') := fun v g hv hf => by
      rw [hDU]
      exact bforward_any l S HS2.out hl g 0 S U hU0 v (T7.below (HW.out v hv) hlt7) hf
    have c10 : Hid (∀ (v : World) (H : Nat → Nat), Below W.heap.size W v → Trio v H S DU → Calls Tryd.prog 77 #[.agg #[.slice (some ⟨G 0, 0, none⟩) S S, .slice (some ⟨G 1, 0, none⟩) S S, .slice (some ⟨G 2, 0, none⟩) S S], .agg #[.slice (some ⟨H 0, 0, none⟩) S S, .slice (some ⟨H 1, 0, none⟩) S S, .slice (some ⟨H 2, 0, none⟩) S S]] v fun e w' => ∃ R : Nat → Nat, e = .returned (.agg #[.slice (some ⟨R 0, 0, none⟩) S S, .slice (some ⟨R 1, 0, none⟩) S S, .slice (some ⟨R 2, 0, none⟩) S S]) ∧ Trio w' R S Z ∧ Below v.heap.size v w') := fun v H hv ht => by
      rw [hZ]
      rw [hDU] at ht
      exact bcyclic_any l S HS2.out hl _ U G H v (T7.below (HW.out v hv) hlt7) (TR7.out.below (HW.out v hv) (by omega)) ht
    have c11 : Hid (∀ (v : World) (R : Nat → Nat), Below W.heap.size W v → Trio v R S Z → Calls Tryd.prog 78 #[.agg #[.slice (some ⟨R 0, 0, none⟩) S S, .slice (some ⟨R 1, 0, none⟩) S S, .slice (some ⟨R 2, 0, none⟩) S S], .int .i64 (p : Int), .int .i64 (r : Int)] v fun e w' => ∃ g, e = .returned (.slice (some ⟨g, 0, none⟩) r r) ∧ Fam w' g 0 r (fun t => V (s + t)) ∧ Below v.heap.size v w') := fun v R hv ht =>
      bjoined_any S p r hle hr1 (by omega) R Z (fun t => V (s + t)) (fun t _ => by rw [HV.out]; exact cr_nonneg hP0 hT0 _) (fun t ht => by rw [HV.out]; exact cr_fits hT0 Hok.out (s + t) (by omega)) (fun k t => by rw [hZ]; exact md_nonneg _ _)
        (fun k t _ ht => by
          rw [hZ, HV.out]
          show cyc k S (pd n fun j => P (n - 1 - j)) U (p + t) = md k (cr n P T (s + t))
          rw [show p + t = n - 1 + t by omega, cyc_cr k n S h1 P U t (by omega), hUd, show d = m - s by omega, cr_pd n m s P T t (by omega)]) v (T7.below (HW.out v hv) hlt7) ht
    have hpI : (n : Int) - 1 = (p : Int) := by omega
    have hsm : (s : Int) ≤ (m : Int) := by omega
    have hdm : m - s = d := by omega
    have hcs : ¬ cb = s := by omega
    have HR : Hid (r = tl n m E s) := hr
    clear hr hUd hDU hZ hU0
    gi_wp2_with fail
    gi_cut [17] from 53 (fun v17 wc => ∃ (β : Nat) (R : Nat → Nat), v17 = .pointer (some ⟨β, 0, none⟩) ∧ W.heap.size ≤ β ∧ (∀ k, k < 3 → wc.cell? ⟨β, k, none⟩ = some (.slice (some ⟨R k, 0, none⟩) S S)) ∧ Trio wc R S Z ∧ Below W.heap.size W wc)
    case first =>
      rename_i J K' hJ hK'
      have bd : Below W.heap.size W W.drew := (Below.refl _ _).drew
      have hH := hU.out W.drew bd
      refine region_round (S := fun v => v.cell? ⟨B6, 0, none⟩ = some (.slice (some ⟨G 0, 0, none⟩) S S) ∧ v.cell? ⟨B6, 1, none⟩ = some (.slice (some ⟨G 1, 0, none⟩) S S) ∧ v.cell? ⟨B6, 2, none⟩ = some (.slice (some ⟨G 2, 0, none⟩) S S) ∧ v.cell? ⟨w.heap.size, 0, none⟩ = some (.slice (some ⟨tb, tof, none⟩) m cb) ∧ v.cell? ⟨B1, 0, none⟩ = some (.int .i64 (S : Int))) (by kernel_rfl) (by kernel_rfl) (fun ⟨_, _, h⟩ => h) ?_
      refine takeH (i := 0) (v := .agg #[.slice (some ⟨G 0, 0, none⟩) S S, .slice (some ⟨G 1, 0, none⟩) S S, .slice (some ⟨G 2, 0, none⟩) S S]) rfl (by kernel_rfl) (by kernel_rfl) (by kernel_rfl) (fun _ _ _ h => h) rfl ?_ hH ?_
      · rintro v0 ⟨a0, a1, a2, a3, a4⟩
        go_simp
      try simp only [Act.put, List.setIfInBounds_toArray, List.set_cons_zero, List.set_cons_succ]
      refine takeH (i := 1) (v := .slice (some ⟨tb, tof, none⟩) m cb) rfl (by kernel_rfl) (by kernel_rfl) (by kernel_rfl) (fun _ _ _ h => h) rfl ?_ hH ?_
      · rintro v0 ⟨a0, a1, a2, a3, a4⟩
        go_simp
      try simp only [Act.put, List.setIfInBounds_toArray, List.set_cons_zero, List.set_cons_succ]
      refine takeH (i := 2) (v := .int .i64 (s : Int)) rfl (by kernel_rfl) (by kernel_rfl) (by kernel_rfl) (fun _ _ _ h => h) rfl ?_ hH ?_
      · rintro v0 ⟨a0, a1, a2, a3, a4⟩
        go_simp
      try simp only [Act.put, List.setIfInBounds_toArray, List.set_cons_zero, List.set_cons_succ]
      refine takeH (i := 3) (v := .slice (some ⟨tb, tof + s, none⟩) d (cb - s)) rfl (by kernel_rfl) (by kernel_rfl) (by kernel_rfl) (fun _ _ _ h => h) rfl ?_ hH ?_
      · rintro v0 ⟨a0, a1, a2, a3, a4⟩
        go_simp
      try simp only [Act.put, List.setIfInBounds_toArray, List.set_cons_zero, List.set_cons_succ]
      refine takeH (i := 4) (v := .int .i64 (S : Int)) rfl (by kernel_rfl) (by kernel_rfl) (by kernel_rfl) (fun _ _ _ h => h) rfl ?_ hH ?_
      · rintro v0 ⟨a0, a1, a2, a3, a4⟩
        go_simp
      try simp only [Act.put, List.setIfInBounds_toArray, List.set_cons_zero, List.set_cons_succ]
      obtain ⟨W0, hW0⟩ : ∃ W0, W0 = W.drew := ⟨_, rfl⟩
      rw [← hW0]
      have bW0 : Below W.heap.size W W0 := by rw [hW0]; exact bd
      clear hW0
      refine stepH2 (i := 5) (j := 8) rfl rfl (by kernel_rfl) rfl rfl (fun K hK => ?_) (fun K hK => ?_)
      · go_simp
        refine Calls.mono (c8.out W0 _ bW0) ?_; rintro e W0a ⟨rfl, fwW0a, qW0a⟩
        have bW0a : Below W.heap.size W W0a := bW0.trans (qW0a.mono bW0.size)
        refine hK.out _ _ (hU.out W0a bW0a) ?_
        clear hK K
        try simp only [Act.put, List.setIfInBounds_toArray, List.set_cons_zero, List.set_cons_succ]
        refine stepH2 (i := 6) (j := 8) rfl rfl (by kernel_rfl) rfl rfl (fun K hK => ?_) (fun K hK => ?_)
        · go_simp
          refine Calls.mono (c9.out W0a W0.heap.size bW0a fwW0a) ?_; rintro e W0ab ⟨H, rfl, tHW0ab, qW0ab⟩
          have bW0ab : Below W.heap.size W W0ab := bW0a.trans (qW0ab.mono bW0a.size)
          have fwW0ab := Fam.below fwW0a qW0ab (Fam.lt fwW0a (by omega))
          refine hK.out _ _ (hU.out W0ab bW0ab) ?_
          clear hK K
          try simp only [Act.put, List.setIfInBounds_toArray, List.set_cons_zero, List.set_cons_succ]
          refine stepH2 (i := 7) (j := 8) rfl rfl (by kernel_rfl) rfl rfl (fun K hK => ?_) (fun K hK => ?_)
          · go_simp
            refine Calls.mono (c10.out W0ab H bW0ab tHW0ab) ?_; rintro e W0abc ⟨R, rfl, tRW0abc, qW0abc⟩
            have bW0abc : Below W.heap.size W W0abc := bW0ab.trans (qW0abc.mono bW0ab.size)
            have tHW0abc := Trio.below tHW0ab qW0abc (Nat.le_refl _)
            refine hK.out _ _ (hU.out W0abc bW0abc) ?_
            clear hK K
            try simp only [Act.put, List.setIfInBounds_toArray, List.set_cons_zero, List.set_cons_succ]
            refine stepH (i := 8) rfl (by kernel_rfl) rfl (fun K hK => ?_)
            obtain ⟨W0abcd, eW0abcd, bareW0abcd, qW0abcd⟩ := bare_new W0abc 103
            go_simp
            rw [← eW0abcd]
            clear eW0abcd
            have bW0abcd : Below W.heap.size W W0abcd := bW0abc.trans (qW0abcd.mono bW0abc.size)
            have tRW0abcd := Trio.below tRW0abc qW0abcd (Nat.le_refl _)
            refine hK.out _ _ (hU.out W0abcd bW0abcd) ?_
            clear hK K
            try simp only [Act.put, List.setIfInBounds_toArray, List.set_cons_zero, List.set_cons_succ]
            refine stepH (i := 9) rfl (by kernel_rfl) rfl (fun K hK => ?_)
            obtain ⟨wf, ef, cf, tf, bf⟩ := bare_set bareW0abcd hSz tRW0abcd bW0abcd bW0abc.size
            have y0 := bareW0abcd.cell 0 (by omega)
            have y1 := bareW0abcd.cell 1 (by omega)
            have y2 := bareW0abcd.cell 2 (by omega)
            obtain ⟨z0, z1, z2⟩ := bareW0abcd.wrt.c3
            go_simp
            rw [← ef]
            refine hK.out _ _ (hU.out wf bf) ?_
            clear hK K
            try simp only [Act.put, List.setIfInBounds_toArray, List.set_cons_zero, List.set_cons_succ]
            refine wpAnyH_done (by kernel_rfl) ?_ _
            refine hK' _ _ (Met.intro (hJ _ _ ?_))
            repeat apply Exists.intro
            exact ⟨⟨_, R, rfl, bW0abc.size, cf, tf, bf⟩, rfl⟩
          · obtain ⟨W0abd, eW0abd, bareW0abd, qW0abd⟩ := bare_new W0ab 103
            go_simp
            rw [← eW0abd]
            clear eW0abd
            have bW0abd : Below W.heap.size W W0abd := bW0ab.trans (qW0abd.mono bW0ab.size)
            have tHW0abd := Trio.below tHW0ab qW0abd (Nat.le_refl _)
            refine hK.out _ _ (hU.out W0abd bW0abd) ?_
            clear hK K
            try simp only [Act.put, List.setIfInBounds_toArray, List.set_cons_zero, List.set_cons_succ]
            refine stepH (i := 7) rfl (by kernel_rfl) rfl (fun K hK => ?_)
            go_simp
            refine Calls.mono (c10.out W0abd H bW0abd tHW0abd) ?_; rintro e W0abdc ⟨R, rfl, tRW0abdc, qW0abdc⟩
            have bW0abdc : Below W.heap.size W W0abdc := bW0abd.trans (qW0abdc.mono bW0abd.size)
            have tHW0abdc := Trio.below tHW0abd qW0abdc (Nat.le_refl _)
            have bareW0abdc := Bare.below bareW0abd qW0abdc
            refine hK.out _ _ (hU.out W0abdc bW0abdc) ?_
            clear hK K
            try simp only [Act.put, List.setIfInBounds_toArray, List.set_cons_zero, List.set_cons_succ]
            refine stepH (i := 9) rfl (by kernel_rfl) rfl (fun K hK => ?_)
            obtain ⟨wf, ef, cf, tf, bf⟩ := bare_set bareW0abdc hSz tRW0abdc bW0abdc bW0ab.size
            have y0 := bareW0abdc.cell 0 (by omega)
            have y1 := bareW0abdc.cell 1 (by omega)
            have y2 := bareW0abdc.cell 2 (by omega)
            obtain ⟨z0, z1, z2⟩ := bareW0abdc.wrt.c3
            go_simp
            rw [← ef]
            refine hK.out _ _ (hU.out wf bf) ?_
            clear hK K
            try simp only [Act.put, List.setIfInBounds_toArray, List.set_cons_zero, List.set_cons_succ]
            refine wpAnyH_done (by kernel_rfl) ?_ _
            refine hK' _ _ (Met.intro (hJ _ _ ?_))
            repeat apply Exists.intro
            exact ⟨⟨_, R, rfl, bW0ab.size, cf, tf, bf⟩, rfl⟩
        · obtain ⟨W0ad, eW0ad, bareW0ad, qW0ad⟩ := bare_new W0a 103
          go_simp
          rw [← eW0ad]
          clear eW0ad
          have bW0ad : Below W.heap.size W W0ad := bW0a.trans (qW0ad.mono bW0a.size)
          have fwW0ad := Fam.below fwW0a qW0ad (Fam.lt fwW0a (by omega))
          refine hK.out _ _ (hU.out W0ad bW0ad) ?_
          clear hK K
          try simp only [Act.put, List.setIfInBounds_toArray, List.set_cons_zero, List.set_cons_succ]
          refine stepH (i := 6) rfl (by kernel_rfl) rfl (fun K hK => ?_)
          go_simp
          refine Calls.mono (c9.out W0ad W0.heap.size bW0ad fwW0ad) ?_; rintro e W0adb ⟨H, rfl, tHW0adb, qW0adb⟩
          have bW0adb : Below W.heap.size W W0adb := bW0ad.trans (qW0adb.mono bW0ad.size)
          have fwW0adb := Fam.below fwW0ad qW0adb (Fam.lt fwW0ad (by omega))
          have bareW0adb := Bare.below bareW0ad qW0adb
          refine hK.out _ _ (hU.out W0adb bW0adb) ?_
          clear hK K
          try simp only [Act.put, List.setIfInBounds_toArray, List.set_cons_zero, List.set_cons_succ]
          refine stepH (i := 7) rfl (by kernel_rfl) rfl (fun K hK => ?_)
          go_simp
          refine Calls.mono (c10.out W0adb H bW0adb tHW0adb) ?_; rintro e W0adbc ⟨R, rfl, tRW0adbc, qW0adbc⟩
          have bW0adbc : Below W.heap.size W W0adbc := bW0adb.trans (qW0adbc.mono bW0adb.size)
          have tHW0adbc := Trio.below tHW0adb qW0adbc (Nat.le_refl _)
          have bareW0adbc := Bare.below bareW0adb qW0adbc
          refine hK.out _ _ (hU.out W0adbc bW0adbc) ?_
          clear hK K
          try simp only [Act.put, List.setIfInBounds_toArray, List.set_cons_zero, List.set_cons_succ]
          refine stepH (i := 9) rfl (by kernel_rfl) rfl (fun K hK => ?_)
          obtain ⟨wf, ef, cf, tf, bf⟩ := bare_set bareW0adbc hSz tRW0adbc bW0adbc bW0a.size
          have y0 := bareW0adbc.cell 0 (by omega)
          have y1 := bareW0adbc.cell 1 (by omega)
          have y2 := bareW0adbc.cell 2 (by omega)
          obtain ⟨z0, z1, z2⟩ := bareW0adbc.wrt.c3
          go_simp
          rw [← ef]
          refine hK.out _ _ (hU.out wf bf) ?_
          clear hK K
          try simp only [Act.put, List.setIfInBounds_toArray, List.set_cons_zero, List.set_cons_succ]
          refine wpAnyH_done (by kernel_rfl) ?_ _
          refine hK' _ _ (Met.intro (hJ _ _ ?_))
          repeat apply Exists.intro
          exact ⟨⟨_, R, rfl, bW0a.size, cf, tf, bf⟩, rfl⟩
      · obtain ⟨W0d, eW0d, bareW0d, qW0d⟩ := bare_new W0 103
        go_simp
        rw [← eW0d]
        clear eW0d
        have bW0d : Below W.heap.size W W0d := bW0.trans (qW0d.mono bW0.size)
        refine hK.out _ _ (hU.out W0d bW0d) ?_
        clear hK K
        try simp only [Act.put, List.setIfInBounds_toArray, List.set_cons_zero, List.set_cons_succ]
        refine stepH (i := 5) rfl (by kernel_rfl) rfl (fun K hK => ?_)
        go_simp
        refine Calls.mono (c8.out W0d _ bW0d) ?_; rintro e W0da ⟨rfl, fwW0da, qW0da⟩
        have bW0da : Below W.heap.size W W0da := bW0d.trans (qW0da.mono bW0d.size)
        have bareW0da := Bare.below bareW0d qW0da
        refine hK.out _ _ (hU.out W0da bW0da) ?_
        clear hK K
        try simp only [Act.put, List.setIfInBounds_toArray, List.set_cons_zero, List.set_cons_succ]
        refine stepH (i := 6) rfl (by kernel_rfl) rfl (fun K hK => ?_)
        go_simp
        refine Calls.mono (c9.out W0da W0d.heap.size bW0da fwW0da) ?_; rintro e W0dab ⟨H, rfl, tHW0dab, qW0dab⟩
        have bW0dab : Below W.heap.size W W0dab := bW0da.trans (qW0dab.mono bW0da.size)
        have fwW0dab := Fam.below fwW0da qW0dab (Fam.lt fwW0da (by omega))
        have bareW0dab := Bare.below bareW0da qW0dab
        refine hK.out _ _ (hU.out W0dab bW0dab) ?_
        clear hK K
        try simp only [Act.put, List.setIfInBounds_toArray, List.set_cons_zero, List.set_cons_succ]
        refine stepH (i := 7) rfl (by kernel_rfl) rfl (fun K hK => ?_)
        go_simp
        refine Calls.mono (c10.out W0dab H bW0dab tHW0dab) ?_; rintro e W0dabc ⟨R, rfl, tRW0dabc, qW0dabc⟩
        have bW0dabc : Below W.heap.size W W0dabc := bW0dab.trans (qW0dabc.mono bW0dab.size)
        have tHW0dabc := Trio.below tHW0dab qW0dabc (Nat.le_refl _)
        have bareW0dabc := Bare.below bareW0dab qW0dabc
        refine hK.out _ _ (hU.out W0dabc bW0dabc) ?_
        clear hK K
        try simp only [Act.put, List.setIfInBounds_toArray, List.set_cons_zero, List.set_cons_succ]
        refine stepH (i := 9) rfl (by kernel_rfl) rfl (fun K hK => ?_)
        obtain ⟨wf, ef, cf, tf, bf⟩ := bare_set bareW0dabc hSz tRW0dabc bW0dabc bW0.size
        have y0 := bareW0dabc.cell 0 (by omega)
        have y1 := bareW0dabc.cell 1 (by omega)
        have y2 := bareW0dabc.cell 2 (by omega)
        obtain ⟨z0, z1, z2⟩ := bareW0dabc.wrt.c3
        go_simp
        rw [← ef]
        refine hK.out _ _ (hU.out wf bf) ?_
        clear hK K
        try simp only [Act.put, List.setIfInBounds_toArray, List.set_cons_zero, List.set_cons_succ]
        refine wpAnyH_done (by kernel_rfl) ?_ _
        refine hK' _ _ (Met.intro (hJ _ _ ?_))
        repeat apply Exists.intro
        exact ⟨⟨_, R, rfl, bW0.size, cf, tf, bf⟩, rfl⟩
    case rest =>
      obtain ⟨β, R, rfl, hβ, hcβ, trc, bc⟩ := hcut
      have cm7c : wc.cell? ⟨B2, 0, none⟩ = some (.int .i64 (n : Int)) := ((HW.out wc bc).cell (p := ⟨B2, 0, none⟩) (by show B2 < _; omega)).trans cm7
      have hβl : β < wc.heap.size := World.block_lt_of_cell? wc _ (hcβ 0 (by omega))
      have hβ0 := hcβ 0 (by omega)
      have hβ1 := hcβ 1 (by omega)
      have hβ2 := hcβ 2 (by omega)
      obtain ⟨ao, cp, rfl⟩ : ∃ ao cp, v = .slice ao (flatC n m E V pre).length cp := by
        rcases own.2 with ⟨h, h0⟩ | ⟨g, cap, cur, h, _⟩
        · rw [h0]; exact ⟨none, 0, h⟩
        · exact ⟨_, _, h⟩
      have hflat : (flatC n m E V pre).length ≤ 4096000000 := by
        have := flat_len n m E V pre
        have h3 : pre.length * E ≤ 1000000 * 4096 := Nat.mul_le_mul (by omega) (by omega)
        omega
      have Hfs : Hid (flatC n m E V (pre ++ [⟨s, hs⟩]) = flatC n m E V pre ++ cellsOf (fun t => V (s + t)) r) := by show _ = _; rw [flat_snoc, HR.out]
      have c12 : Hid (∀ wd, Below W.heap.size W wd → β < wd.heap.size → ∀ g, Fam wd g 0 r (fun t => V (s + t)) → _) := fun wd hwd hbd g hf => append_row (b := β) (b' := B2) bx own hwd hWs (by omega) hf hr1 (by omega) hβ hbd (by omega)
      have bcd : Below W.heap.size W wc.drew := bc.drew
      have bx8 : wc.drew.cell? ⟨B8, 0, none⟩ = some (.slice ao (flatC n m E V pre).length cp) := (boxed_below bx bc).cell
      have bxl : B8 < W.heap.size := bx.lt
      have KK : Hid (And (Boxed W B9' 3 (.int .i64 (n : Int))) (And (Boxed W (B9' + 1) 3 (.int .i64 (m : Int))) (Boxed W (B9' + 1 + 1) 3 (.int .i64 (S : Int))))) := ⟨k1, k2, k3⟩
      have bW' : Hid (Below B7 w7 W) := bW
      generalize hfl : (flatC n m E V pre).length = fl at *
      have HFL : Hid ((flatC n m E V pre).length = fl) := hfl
      clear hcβ c8 c9 c10 hU bx own k1 k2 k3 bW hfl
      gi_wp2_with fail
      refine region_round (S := fun v => v.cell? ⟨β, 0, none⟩ = some (.slice (some ⟨R 0, 0, none⟩) S S) ∧ v.cell? ⟨β, 1, none⟩ = some (.slice (some ⟨R 1, 0, none⟩) S S) ∧ v.cell? ⟨β, 2, none⟩ = some (.slice (some ⟨R 2, 0, none⟩) S S) ∧ v.cell? ⟨B2, 0, none⟩ = some (.int .i64 (n : Int))) (by kernel_rfl) (by kernel_rfl) (fun ⟨_, _, h⟩ => h) ?_
      have hH : wc.drew.cell? ⟨β, 0, none⟩ = some (.slice (some ⟨R 0, 0, none⟩) S S) ∧ wc.drew.cell? ⟨β, 1, none⟩ = some (.slice (some ⟨R 1, 0, none⟩) S S) ∧ wc.drew.cell? ⟨β, 2, none⟩ = some (.slice (some ⟨R 2, 0, none⟩) S S) ∧ wc.drew.cell? ⟨B2, 0, none⟩ = some (.int .i64 (n : Int)) := ⟨hβ0, hβ1, hβ2, cm7c⟩
      refine takeH (i := 1) (v := .agg #[.slice (some ⟨R 0, 0, none⟩) S S, .slice (some ⟨R 1, 0, none⟩) S S, .slice (some ⟨R 2, 0, none⟩) S S]) rfl (by kernel_rfl) (by kernel_rfl) (by kernel_rfl) (fun _ _ _ h => h) rfl ?_ hH ?_
      · rintro v0 ⟨a0, a1, a2, a3⟩
        go_simp
      try simp only [Act.put, List.setIfInBounds_toArray, List.set_cons_zero, List.set_cons_succ]
      refine takeH (i := 2) (v := .int .i64 (n : Int)) rfl (by kernel_rfl) (by kernel_rfl) (by kernel_rfl) (fun _ _ _ h => h) rfl ?_ hH ?_
      · rintro v0 ⟨a0, a1, a2, a3⟩
        go_simp
      try simp only [Act.put, List.setIfInBounds_toArray, List.set_cons_zero, List.set_cons_succ]
      refine takeH (i := 3) (v := .int .i64 (p : Int)) rfl (by kernel_rfl) (by kernel_rfl) (by kernel_rfl) (fun _ _ _ h => h) rfl ?_ hH ?_
      · rintro v0 ⟨a0, a1, a2, a3⟩
        go_simp
        rw [IntKind.wrap_i64]; omega
      try simp only [Act.put, List.setIfInBounds_toArray, List.set_cons_zero, List.set_cons_succ]
      refine takeH (i := 4) (v := .int .i64 (r : Int)) rfl (by kernel_rfl) (by kernel_rfl) (by kernel_rfl) (fun _ _ _ h => h) rfl ?_ hH ?_
      · rintro v0 ⟨a0, a1, a2, a3⟩
        go_simp
      try simp only [Act.put, List.setIfInBounds_toArray, List.set_cons_zero, List.set_cons_succ]
      obtain ⟨W0, hW0⟩ : ∃ W0, W0 = wc.drew := ⟨_, rfl⟩
      rw [← hW0] at hH bx8 bcd ⊢
      have hβd : β < W0.heap.size := by rw [hW0]; exact hβl
      have trd : Trio W0 R S Z := by rw [hW0]; exact trc
      clear hW0
      refine stepH2 (i := 0) (j := 5) rfl rfl (by kernel_rfl) rfl rfl (fun K hK => ?_) (fun K hK => ?_)
      · go_simp
        refine hK.out _ _ hH ?_
        clear hK K
        try simp only [Act.put, List.setIfInBounds_toArray, List.set_cons_zero, List.set_cons_succ]
        refine stepH (i := 5) rfl (by kernel_rfl) rfl (fun K hK => ?_)
        go_simp
        refine Calls.mono (c11.out W0 R bcd trd) ?_; rintro e wd ⟨g, rfl, fd, qd⟩
        have hHd : wd.cell? ⟨β, 0, none⟩ = some (.slice (some ⟨R 0, 0, none⟩) S S) ∧ wd.cell? ⟨β, 1, none⟩ = some (.slice (some ⟨R 1, 0, none⟩) S S) ∧ wd.cell? ⟨β, 2, none⟩ = some (.slice (some ⟨R 2, 0, none⟩) S S) ∧ wd.cell? ⟨B2, 0, none⟩ = some (.int .i64 (n : Int)) := ⟨(qd.cell (p := ⟨β, 0, none⟩) hβd).trans hH.1, (qd.cell (p := ⟨β, 1, none⟩) hβd).trans hH.2.1, (qd.cell (p := ⟨β, 2, none⟩) hβd).trans hH.2.2.1, (qd.cell (p := ⟨B2, 0, none⟩) (by show B2 < _; omega)).trans hH.2.2.2⟩
        have bwd : Below W.heap.size W wd := bcd.trans (qd.mono (by omega))
        refine hK.out _ _ hHd ?_
        clear hK K
        try simp only [Act.put, List.setIfInBounds_toArray, List.set_cons_zero, List.set_cons_succ]
        obtain ⟨g', cap, we, hrun, e8, f8, eb, eb', hfin⟩ := c12.out wd bwd (Nat.lt_of_lt_of_le hβd qd.size) g fd
        refine stepH (i := 6) rfl (by kernel_rfl) rfl (fun K hK => ?_)
        refine wp_append_eq (.tmp 61) (.tmp 66) 82 rfl _ _ _ _ rfl rfl hrun ?_
        refine hK.out _ _ ⟨(eb 0).trans hHd.1, (eb 1).trans hHd.2.1, (eb 2).trans hHd.2.2.1, (eb' 0).trans hHd.2.2.2⟩ ?_
        clear hK K
        try simp only [Act.put, List.setIfInBounds_toArray, List.set_cons_zero, List.set_cons_succ]
        refine stepH (i := 7) rfl (by kernel_rfl) rfl (fun K hK => ?_)
        go_simp
        obtain ⟨x1, x2, x3, x4, x5, x6, x7⟩ := hfin _ rfl
        refine hK.out _ _ ⟨(x6 0).trans hHd.1, (x6 1).trans hHd.2.1, (x6 2).trans hHd.2.2.1, (x7 0).trans hHd.2.2.2⟩ ?_
        clear hK K
        refine wpAnyH_done (by kernel_rfl) ?_ _
        have y1 := x5 _ _ (by omega) KK.out.1
        have y2 := x5 _ _ (by omega) KK.out.2.1
        have y3 := x5 _ _ (by omega) KK.out.2.2
        refine ⟨x3, ⟨y1.cell.trans KK.out.1.cell.symm, y2.cell.trans KK.out.2.1.cell.symm, y3.cell.trans KK.out.2.2.cell.symm⟩, ⟨⟨⟨_, x1, ?_, trivial⟩, y1, y2, y3⟩, bW'.out.trans x4⟩⟩
        rw [Hfs.out]
        rw [List.length_append, HFL.out, show (cellsOf (fun t => V (s + t)) r).length = r by simp [cellsOf]]
        exact x2
      · go_simp
        refine Calls.mono (c11.out W0 R bcd trd) ?_; rintro e wd ⟨g, rfl, fd, qd⟩
        have hHd : wd.cell? ⟨β, 0, none⟩ = some (.slice (some ⟨R 0, 0, none⟩) S S) ∧ wd.cell? ⟨β, 1, none⟩ = some (.slice (some ⟨R 1, 0, none⟩) S S) ∧ wd.cell? ⟨β, 2, none⟩ = some (.slice (some ⟨R 2, 0, none⟩) S S) ∧ wd.cell? ⟨B2, 0, none⟩ = some (.int .i64 (n : Int)) := ⟨(qd.cell (p := ⟨β, 0, none⟩) hβd).trans hH.1, (qd.cell (p := ⟨β, 1, none⟩) hβd).trans hH.2.1, (qd.cell (p := ⟨β, 2, none⟩) hβd).trans hH.2.2.1, (qd.cell (p := ⟨B2, 0, none⟩) (by show B2 < _; omega)).trans hH.2.2.2⟩
        have bwd : Below W.heap.size W wd := bcd.trans (qd.mono (by omega))
        have bx9 : wd.cell? ⟨B8, 0, none⟩ = some (.slice ao fl cp) := (qd.cell (p := ⟨B8, 0, none⟩) (by show B8 < _; omega)).trans bx8
        refine hK.out _ _ hHd ?_
        clear hK K
        try simp only [Act.put, List.setIfInBounds_toArray, List.set_cons_zero, List.set_cons_succ]
        refine stepH (i := 0) rfl (by kernel_rfl) rfl (fun K hK => ?_)
        go_simp
        refine hK.out _ _ hHd ?_
        clear hK K
        try simp only [Act.put, List.setIfInBounds_toArray, List.set_cons_zero, List.set_cons_succ]
        obtain ⟨g', cap, we, hrun, e8, f8, eb, eb', hfin⟩ := c12.out wd bwd (Nat.lt_of_lt_of_le hβd qd.size) g fd
        refine stepH (i := 6) rfl (by kernel_rfl) rfl (fun K hK => ?_)
        refine wp_append_eq (.tmp 61) (.tmp 66) 82 rfl _ _ _ _ rfl rfl hrun ?_
        refine hK.out _ _ ⟨(eb 0).trans hHd.1, (eb 1).trans hHd.2.1, (eb 2).trans hHd.2.2.1, (eb' 0).trans hHd.2.2.2⟩ ?_
        clear hK K
        try simp only [Act.put, List.setIfInBounds_toArray, List.set_cons_zero, List.set_cons_succ]
        refine stepH (i := 7) rfl (by kernel_rfl) rfl (fun K hK => ?_)
        go_simp
        obtain ⟨x1, x2, x3, x4, x5, x6, x7⟩ := hfin _ rfl
        refine hK.out _ _ ⟨(x6 0).trans hHd.1, (x6 1).trans hHd.2.1, (x6 2).trans hHd.2.2.1, (x7 0).trans hHd.2.2.2⟩ ?_
        clear hK K
        refine wpAnyH_done (by kernel_rfl) ?_ _
        have y1 := x5 _ _ (by omega) KK.out.1
        have y2 := x5 _ _ (by omega) KK.out.2.1
        have y3 := x5 _ _ (by omega) KK.out.2.2
        refine ⟨x3, ⟨y1.cell.trans KK.out.1.cell.symm, y2.cell.trans KK.out.2.1.cell.symm, y3.cell.trans KK.out.2.2.cell.symm⟩, ⟨⟨⟨_, x1, ?_, trivial⟩, y1, y2, y3⟩, bW'.out.trans x4⟩⟩
        rw [Hfs.out]
        rw [List.length_append, HFL.out, show (cellsOf (fun t => V (s + t)) r).length = r by simp [cellsOf]]
        exact x2

end Go.Proofs.YtlogdjhnhnfbkaaDoor

namespace Go.Proofs.YtlogdjhnhnfbkaaDoor
open Go.RowKit Res

/-- What is told: N numbers F, how many transforms, the error. -/
def Told3 (w : World) (N : Nat) (F : Nat → Int) (q c : Int) (e : Ending) (w' : World) : Prop :=
  ∃ ao cap, e = .returned (.tuple #[.slice ao N cap, .int .i64 q, .int .i64 c]) ∧ Lies w' ao N F ∧ Below w.heap.size w w'

/-- The same, and that the slice has room for its numbers. -/
def Told4 (w : World) (N : Nat) (F : Nat → Int) (q c : Int) (e : Ending) (w' : World) : Prop :=
  ∃ ao cap, e = .returned (.tuple #[.slice ao N cap, .int .i64 q, .int .i64 c]) ∧ Lies w' ao N F ∧ Below w.heap.size w w' ∧ N ≤ cap
theorem Told4.less {w w' : World} {N : Nat} {F : Nat → Int} {q c : Int} {e : Ending} (h : Told4 w N F q c e w') : Told3 w N F q c e w' :=
  let ⟨ao, cap, he, hl, hb, _⟩ := h; ⟨ao, cap, he, hl, hb⟩

set_option maxRecDepth 100000 in
set_option maxHeartbeats 2000000 in
theorem bcor_none (ao bo : Option Addr) (n m ca cb : Nat) (s : Int) (hn : n ≤ 1000000) (hm : m ≤ 1000000) (hno : n = 0 ∨ m < n) (P T : Nat → Int) (hP1 : ∀ t, P t ≤ 18446744073709551615) (hT1 : ∀ t, T t ≤ 18446744073709551615) (w : World) (la : Lies w ao n P) (lb : Lies w bo m T) :
    Calls Tryd.prog 56 #[.slice ao n ca, .slice bo m cb, .int .i64 s] w fun e w' => e = .returned (.tuple #[.slice none 0 0, .int .i64 0, .int .i64 0]) ∧ Below w.heap.size w w' := by
  obtain ⟨w1, x1⟩ := boxS w (.slice bo m cb) 82
  obtain ⟨w2, x2⟩ := boxS w1 (.int .i64 s) 3
  have z1 : w.heap.size + 1 = w1.heap.size := by rw [x1.eq, size_alloc]
  have b2 : Below w.heap.size w w2 := x1.bel.trans (x2.bel.mono (by omega))
  have c1 : Hid _ := bcheck_any ao bo n m ca cb s (by omega) (by omega) P T hP1 hT1 w2 (la.below b2 (Nat.le_refl _)) (lb.below b2 (Nat.le_refl _))
  rw [bc_none hno] at c1
  have E1 : Hid _ := x1.eq
  have E2 : Hid _ := x2.eq
  have Z1 : Hid _ := z1
  have ct2 : w2.cell? ⟨w.heap.size, 0, none⟩ = some (.slice bo m cb) := (x2.bel.cell (p := ⟨w.heap.size, 0, none⟩) x1.size).trans x1.cell
  have y1 : w.heap.size < w1.heap.size := x1.size
  have y2 : w1.heap.size < w2.heap.size := x2.size
  obtain ⟨w3, e3⟩ : ∃ w3, w3 = (w2.alloc (.cells #[.int .i64 (n : Int)] 3)).drew := ⟨_, rfl⟩
  have E3 : Hid _ := e3
  have b3 : Below w2.heap.size w2 w3 := by rw [e3]; exact ((Below.refl _ _).alloc (Nat.le_refl _) _).drew
  have y3 : w2.heap.size < w3.heap.size := by rw [e3]; show _ < (w2.alloc _).heap.size; rw [size_alloc]; omega
  have cm3 : w3.cell? ⟨w2.heap.size, 0, none⟩ = some (.int .i64 (n : Int)) := by rw [e3]; exact (Boxed.new w2 3 (.int .i64 (n : Int))).cell
  have B03 : Hid (Below w.heap.size w w3) := b2.trans (b3.mono (by omega))
  have c2 : Hid _ := slides_no n m (by omega) w3
  clear z1 x1 x2 e3 b3 b2 la lb hno
  go_enter Tryd.func56, Tryd.ntmps56
  go_wp2_with fail
  rw [← E1.out, ← E2.out, Z1.out]
  refine Calls.mono (Hid.out c1) ?_; rintro e w' ⟨rfl, hw'⟩; subst w'
  clear E1 E2 Z1 c1
  generalize w1.heap.size = B1 at *
  go_wp2_with fail
  have nn : w2.heap.size ≠ w.heap.size := by omega
  go_region_held3 (fun w' => w'.cell? ⟨w.heap.size, 0, none⟩ = some (.slice bo m cb)) (go_keep) (fail)
  rw [← E3.out]
  clear E3 nn
  generalize w2.heap.size = B2 at *
  go_wp2_with fail
  refine Calls.mono (Hid.out c2) ?_; rintro e w' ⟨rfl, hw'⟩; subst w'
  go_wp2_with fail
  refine bodyPost_ret (results_tmp3 rfl _ _ _) rfl ?_
  exact ⟨rfl, B03.out⟩

set_option maxRecDepth 100000 in
set_option maxHeartbeats 2000000 in
theorem bcor_err (ao bo : Option Addr) (n m ca cb : Nat) (s C : Int) (hn : n ≤ 1000000) (hm : m ≤ 1000000) (P T : Nat → Int) (hC : bc n m P T s = C) (hC0 : ¬ C = 0) (hP1 : ∀ t, P t ≤ 18446744073709551615) (hT1 : ∀ t, T t ≤ 18446744073709551615) (w : World) (la : Lies w ao n P) (lb : Lies w bo m T) :
    Calls Tryd.prog 56 #[.slice ao n ca, .slice bo m cb, .int .i64 s] w fun e w' => e = .returned (.tuple #[.slice none 0 0, .int .i64 0, .int .i64 C]) ∧ Below w.heap.size w w' := by
  obtain ⟨w1, x1⟩ := boxS w (.slice bo m cb) 82
  obtain ⟨w2, x2⟩ := boxS w1 (.int .i64 s) 3
  have z1 : w.heap.size + 1 = w1.heap.size := by rw [x1.eq, size_alloc]
  have b2 : Below w.heap.size w w2 := x1.bel.trans (x2.bel.mono (by omega))
  have c1 : Hid _ := bcheck_any ao bo n m ca cb s (by omega) (by omega) P T hP1 hT1 w2 (la.below b2 (Nat.le_refl _)) (lb.below b2 (Nat.le_refl _))
  rw [hC] at c1
  have E1 : Hid _ := x1.eq
  have E2 : Hid _ := x2.eq
  have Z1 : Hid _ := z1
  have B02 : Hid (Below w.heap.size w w2) := b2
  clear z1 x1 x2 b2 la lb hC
  go_enter Tryd.func56, Tryd.ntmps56
  go_wp2_with fail
  rw [← E1.out, ← E2.out, Z1.out]
  refine Calls.mono (Hid.out c1) ?_; rintro e w' ⟨rfl, hw'⟩; subst w'
  clear E1 E2 Z1 c1
  go_wp2_with fail
  refine bodyPost_ret (results_tmp3 rfl _ _ _) rfl ?_
  exact ⟨rfl, B02.out⟩

theorem bcor_room (ao bo : Option Addr) (n m ca cb : Nat) (s : Int) (hn : n ≤ 1000000) (hm : m ≤ 1000000) (hcb : m ≤ cb) (P T : Nat → Int) (hP0 : ∀ t, 0 ≤ P t) (hT0 : ∀ t, 0 ≤ T t) (hP1 : ∀ t, P t ≤ 18446744073709551615) (hT1 : ∀ t, T t ≤ 18446744073709551615) (w : World) (hT : Tab w) (la : Lies w ao n P) (lb : Lies w bo m T) :
    Calls Tryd.prog 56 #[.slice ao n ca, .slice bo m cb, .int .i64 s] w fun e w' => Told4 w (bl n m P T s) (cr n P T) (bq n m P T s) (bc n m P T s) e w' := by
  by_cases hno : n = 0 ∨ m < n
  · rw [bl_none hno, bq_none hno, bc_none hno]
    exact (bcor_none ao bo n m ca cb s hn hm hno P T hP1 hT1 w la lb).mono fun e w' ⟨he, hb⟩ => ⟨none, 0, he, fun h => by omega, hb, Nat.le_refl _⟩
  · by_cases hc : bc n m P T s = 0
    · have hz : szb n s = true := by
        cases h : szb n s with
        | true => rfl
        | false => rw [bc_size hno h] at hc; cases hc
      have hok : ¬ 18446744073709551616 ≤ gr n P * gr m T * (n : Int) := fun h => by rw [bc_big hno hz h] at hc; cases hc
      rw [bl_ok hno hc, bq_ok hc, hc]
      obtain ⟨l, hl, hs, hms⟩ := szb_yes hz
      obtain ⟨pb, pof, rfl, fp⟩ := la (by omega)
      obtain ⟨tb, tof, rfl, ft⟩ := lb (by omega)
      obtain ⟨S, hS⟩ : ∃ S : Nat, S = 2 ^ l := ⟨_, rfl⟩
      have hsI : s = (S : Int) := by rw [hs, hS, Int.natCast_pow]; rfl
      subst hsI
      exact (bcor_row pb pof tb tof n m ca cb l S (by omega) (by omega) hm hS hl (by omega) hcb P T hP0 hT0 hP1 hT1 hok w hT fp ft).mono fun e w' ⟨g, cap, he, hf, hb, hc⟩ => ⟨_, _, he, fun _ => ⟨g, 0, rfl, hf⟩, hb, hc⟩
    · rw [bl_no hc, bq_no hc]
      exact (bcor_err ao bo n m ca cb s _ hn hm P T rfl hc hP1 hT1 w la lb).mono fun e w' ⟨he, hb⟩ => ⟨none, 0, he, fun h => by omega, hb, Nat.le_refl _⟩

theorem bcor_any (ao bo : Option Addr) (n m ca cb : Nat) (s : Int) (hn : n ≤ 1000000) (hm : m ≤ 1000000) (hcb : m ≤ cb) (P T : Nat → Int) (hP0 : ∀ t, 0 ≤ P t) (hT0 : ∀ t, 0 ≤ T t) (hP1 : ∀ t, P t ≤ 18446744073709551615) (hT1 : ∀ t, T t ≤ 18446744073709551615) (w : World) (hT : Tab w) (la : Lies w ao n P) (lb : Lies w bo m T) :
    Calls Tryd.prog 56 #[.slice ao n ca, .slice bo m cb, .int .i64 s] w fun e w' => Told3 w (bl n m P T s) (cr n P T) (bq n m P T s) (bc n m P T s) e w' :=
  (bcor_room ao bo n m ca cb s hn hm hcb P T hP0 hT0 hP1 hT1 w hT la lb).mono fun _ _ h => h.less

end Go.Proofs.YtlogdjhnhnfbkaaDoor
