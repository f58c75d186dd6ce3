/- Contracts of block.slides, block.holds and of the document's own slides, sized. -/
import Derived.Test.YtdffofpoilfhiaaDoorBlkMath
import Derived.Test.YtdffofpoilfhiaaDoorNttLog
namespace Go.Proofs.YtdffofpoilfhiaaDoor
open Go.RowKit Res

set_option maxHeartbeats 400000 in
theorem slides_yes (m n : Int) (h1 : 1 ≤ m) (h2 : m ≤ n) (w : World) : Calls Tryd.prog 23 #[.int .i64 m, .int .i64 n] w fun e w' => e = .returned (.bool true) ∧ w' = w := by
  have d1 : decide (1 ≤ m) = true := decide_eq_true h1
  have d2 : decide (m ≤ n) = true := decide_eq_true h2
  go_enter Tryd.func23, Tryd.ntmps23
  go_wp2_with fail
  go_ret
  exact ⟨rfl, rfl⟩

set_option maxHeartbeats 400000 in
theorem slides_no (m n : Int) (h : m < 1 ∨ n < m) (w : World) : Calls Tryd.prog 23 #[.int .i64 m, .int .i64 n] w fun e w' => e = .returned (.bool false) ∧ w' = w := by
  by_cases h1 : 1 ≤ m
  · have d1 : decide (1 ≤ m) = true := decide_eq_true h1
    have d2 : decide (m ≤ n) = false := decide_eq_false (by omega)
    clear h h1
    go_enter Tryd.func23, Tryd.ntmps23
    go_wp2_with fail
    go_ret
    exact ⟨rfl, rfl⟩
  · have d1 : decide (1 ≤ m) = false := decide_eq_false h1
    clear h h1
    go_enter Tryd.func23, Tryd.ntmps23
    go_wp2_with fail
    go_ret
    exact ⟨rfl, rfl⟩

set_option maxHeartbeats 400000 in
theorem refSlides_yes (m n : Int) (h1 : 1 ≤ m) (h2 : m ≤ n) (w : World) : Calls Tryd.prog 26 #[.int .i64 m, .int .i64 n] w fun e w' => e = .returned (.bool true) ∧ w' = w := by
  have d1 : decide (1 ≤ m) = true := decide_eq_true h1
  have d2 : decide (m ≤ n) = true := decide_eq_true h2
  go_enter Tryd.func26, Tryd.ntmps26
  go_wp2_with fail
  go_ret
  exact ⟨rfl, rfl⟩

set_option maxHeartbeats 400000 in
theorem refSlides_no (m n : Int) (h : m < 1 ∨ n < m) (w : World) : Calls Tryd.prog 26 #[.int .i64 m, .int .i64 n] w fun e w' => e = .returned (.bool false) ∧ w' = w := by
  by_cases h1 : 1 ≤ m
  · have d1 : decide (1 ≤ m) = true := decide_eq_true h1
    have d2 : decide (m ≤ n) = false := decide_eq_false (by omega)
    clear h h1
    go_enter Tryd.func26, Tryd.ntmps26
    go_wp2_with fail
    go_ret
    exact ⟨rfl, rfl⟩
  · have d1 : decide (1 ≤ m) = false := decide_eq_false h1
    clear h h1
    go_enter Tryd.func26, Tryd.ntmps26
    go_wp2_with fail
    go_ret
    exact ⟨rfl, rfl⟩

set_option maxHeartbeats 400000 in
theorem holds_any (m s : Int) (w : World) : Calls Tryd.prog 24 #[.int .i64 s, .int .i64 m] w fun e w' => e = .returned (.bool (szb m s)) ∧ w' = w := by
  cases hz : szb m s with
  | true =>
    obtain ⟨l, hl, hs, hm⟩ := szb_yes hz
    have c1 : Hid _ := log_yes s l hl hs w
    have d2 : decide (m ≤ s) = true := decide_eq_true hm
    clear hz hs
    go_enter Tryd.func24, Tryd.ntmps24
    go_wp2_with fail
    refine Calls.mono (Hid.out c1) ?_; rintro e w' ⟨rfl, hw'⟩; subst w'
    go_wp2_with fail
    go_ret
    exact ⟨rfl, rfl⟩
  | false =>
    rcases szb_no hz with h | ⟨⟨l, hl, hs⟩, hm⟩
    · have c1 : Hid _ := log_no s h w
      clear hz h
      go_enter Tryd.func24, Tryd.ntmps24
      go_wp2_with fail
      refine Calls.mono (Hid.out c1) ?_; rintro e w' ⟨rfl, hw'⟩; subst w'
      go_wp2_with fail
      go_ret
      exact ⟨rfl, rfl⟩
    · have c1 : Hid _ := log_yes s l hl hs w
      have d2 : decide (m ≤ s) = false := decide_eq_false (by omega)
      clear hz hs
      go_enter Tryd.func24, Tryd.ntmps24
      go_wp2_with fail
      refine Calls.mono (Hid.out c1) ?_; rintro e w' ⟨rfl, hw'⟩; subst w'
      go_wp2_with fail
      go_ret
      exact ⟨rfl, rfl⟩

set_option maxHeartbeats 400000 in
theorem sized_any (m s : Int) (w : World) : Calls Tryd.prog 27 #[.int .i64 m, .int .i64 s] w fun e w' => e = .returned (.bool (szb m s)) ∧ w' = w := by
  cases hz : szb m s with
  | true =>
    obtain ⟨l, hl, hs, hm⟩ := szb_yes hz
    have c1 : Hid _ := refLog_yes s l hl hs w
    have d2 : decide (m ≤ s) = true := decide_eq_true hm
    clear hz hs
    go_enter Tryd.func27, Tryd.ntmps27
    go_wp2_with fail
    refine Calls.mono (Hid.out c1) ?_; rintro e w' ⟨rfl, hw'⟩; subst w'
    go_wp2_with fail
    go_ret
    exact ⟨rfl, rfl⟩
  | false =>
    rcases szb_no hz with h | ⟨⟨l, hl, hs⟩, hm⟩
    · have c1 : Hid _ := refLog_no s h w
      clear hz h
      go_enter Tryd.func27, Tryd.ntmps27
      go_wp2_with fail
      refine Calls.mono (Hid.out c1) ?_; rintro e w' ⟨rfl, hw'⟩; subst w'
      go_wp2_with fail
      go_ret
      exact ⟨rfl, rfl⟩
    · have c1 : Hid _ := refLog_yes s l hl hs w
      have d2 : decide (m ≤ s) = false := decide_eq_false (by omega)
      clear hz hs
      go_enter Tryd.func27, Tryd.ntmps27
      go_wp2_with fail
      refine Calls.mono (Hid.out c1) ?_; rintro e w' ⟨rfl, hw'⟩; subst w'
      go_wp2_with fail
      go_ret
      exact ⟨rfl, rfl⟩

end Go.Proofs.YtdffofpoilfhiaaDoor
