/- Contracts of block.tooBig, block.Check and of the document's own Check, of any rows and any size. -/
import Derived.Test.YtdffofpoilfhiaaDoorBlkSld
import Derived.Test.YtdffofpoilfhiaaDoorConvA
namespace Go.Proofs.YtdffofpoilfhiaaDoor
open Go.RowKit Res

set_option maxHeartbeats 1000000 in
theorem tooBig_any (ao bo : Option Addr) (n m ca cb : Nat) (h1 : 1 ≤ n) (hn : n ≤ 1152921504606846976) (hm : m ≤ 1152921504606846976) (A B : Nat → Int) (hA : ∀ t, A t ≤ 18446744073709551615) (hB : ∀ t, B t ≤ 18446744073709551615) (w : World) (la : Lies w ao n A) (lb : Lies w bo m B) :
    Calls Tryd.prog 25 #[.slice ao n ca, .slice bo m cb] w fun e w' => e = .returned (.bool (decide (18446744073709551616 ≤ gr n A * gr m B * (n : Int)))) ∧ w' = w := by
  have c1 : Hid _ := greatest_any ao n ca hn A w la
  have c2 : Hid _ := greatest_any bo m cb hm B w lb
  have hX0 : 0 ≤ gr n A := gr_nonneg _ _
  have hY0 : 0 ≤ gr m B := gr_nonneg _ _
  have hX1 : gr n A ≤ 18446744073709551615 := gr_hi (by omega) hA n
  have hY1 : gr m B ≤ 18446744073709551615 := gr_hi (by omega) hB m
  clear la lb hA hB
  generalize gr n A = X at *
  generalize gr m B = Y at *
  obtain ⟨H, hH⟩ : ∃ H, H = X * Y / 18446744073709551616 := ⟨_, rfl⟩
  obtain ⟨l, hl⟩ : ∃ l, l = X * Y % 18446744073709551616 := ⟨_, rfl⟩
  obtain ⟨O, hO⟩ : ∃ O, O = l * (n : Int) / 18446744073709551616 := ⟨_, rfl⟩
  obtain ⟨p, hp⟩ : ∃ p, p = l * (n : Int) % 18446744073709551616 := ⟨_, rfl⟩
  have c3 : Hid _ := mul64_any X Y hX0 hY0 (by omega) (by omega) w
  rw [← hH, ← hl] at c3
  have hl0 : 0 ≤ l := by omega
  have hl1 : l < 18446744073709551616 := by omega
  have c4 : Hid _ := mul64_any l n hl0 (by omega) hl1 (by omega) w
  rw [← hO, ← hp] at c4
  have hiff := halves_big (P := X * Y) (k := (n : Int)) (Int.mul_nonneg hX0 hY0) (by omega)
  rw [← hH, ← hl, ← hO] at hiff
  by_cases hbig : 18446744073709551616 ≤ X * Y * (n : Int)
  · rw [decide_eq_true hbig]
    clear hH hl hO hp
    by_cases hH0 : H = 0
    · have hO0 : (O != 0) = true := bne_iff_ne.2 fun e => hiff.1 ⟨hH0, e⟩ hbig
      clear hiff hbig
      subst hH0
      go_enter Tryd.func25, Tryd.ntmps25
      go_wp2_with fail
      refine Calls.mono (Hid.out c1) ?_; rintro e w' ⟨rfl, hw'⟩; subst w'
      go_wp2_with fail
      refine Calls.mono (Hid.out c2) ?_; rintro e w' ⟨rfl, hw'⟩; subst w'
      go_wp2_with fail
      refine Calls.mono (Hid.out c3) ?_; rintro e w' ⟨rfl, hw'⟩; subst w'
      go_wp2_with fail
      refine Calls.mono (Hid.out c4) ?_; rintro e w' ⟨rfl, hw'⟩; subst w'
      go_wp2_with fail
      go_ret
      exact ⟨rfl, rfl⟩
    · have hH0' : (H != 0) = true := bne_iff_ne.2 hH0
      clear hiff hbig
      go_enter Tryd.func25, Tryd.ntmps25
      go_wp2_with fail
      refine Calls.mono (Hid.out c1) ?_; rintro e w' ⟨rfl, hw'⟩; subst w'
      go_wp2_with fail
      refine Calls.mono (Hid.out c2) ?_; rintro e w' ⟨rfl, hw'⟩; subst w'
      go_wp2_with fail
      refine Calls.mono (Hid.out c3) ?_; rintro e w' ⟨rfl, hw'⟩; subst w'
      go_wp2_with fail
      refine Calls.mono (Hid.out c4) ?_; rintro e w' ⟨rfl, hw'⟩; subst w'
      go_wp2_with fail
      go_ret
      exact ⟨rfl, rfl⟩
  · rw [decide_eq_false hbig]
    obtain ⟨hH0, hO0⟩ := hiff.2 hbig
    clear hH hl hO hp
    clear hiff hbig
    subst hH0 hO0
    go_enter Tryd.func25, Tryd.ntmps25
    go_wp2_with fail
    refine Calls.mono (Hid.out c1) ?_; rintro e w' ⟨rfl, hw'⟩; subst w'
    go_wp2_with fail
    refine Calls.mono (Hid.out c2) ?_; rintro e w' ⟨rfl, hw'⟩; subst w'
    go_wp2_with fail
    refine Calls.mono (Hid.out c3) ?_; rintro e w' ⟨rfl, hw'⟩; subst w'
    go_wp2_with fail
    refine Calls.mono (Hid.out c4) ?_; rintro e w' ⟨rfl, hw'⟩; subst w'
    go_wp2_with fail
    go_ret
    exact ⟨rfl, rfl⟩

set_option maxHeartbeats 400000 in
theorem bcheck_any (ao bo : Option Addr) (n m ca cb : Nat) (s : Int) (hn : n ≤ 1152921504606846976) (hm : m ≤ 1152921504606846976) (A B : Nat → Int) (hA : ∀ t, A t ≤ 18446744073709551615) (hB : ∀ t, B t ≤ 18446744073709551615) (w : World) (la : Lies w ao n A) (lb : Lies w bo m B) :
    Calls Tryd.prog 12 #[.slice ao n ca, .slice bo m cb, .int .i64 s] w fun e w' => e = .returned (.int .i64 (bc n m A B s)) ∧ w' = w := by
  by_cases hno : n = 0 ∨ m < n
  · rw [bc_none hno]
    have c1 : Hid _ := slides_no n m (by omega) w
    clear la lb hno
    go_enter Tryd.func12, Tryd.ntmps12
    go_wp2_with fail
    refine Calls.mono (Hid.out c1) ?_; rintro e w' ⟨rfl, hw'⟩; subst w'
    go_wp2_with fail
    go_ret
    exact ⟨rfl, rfl⟩
  have c1 : Hid _ := slides_yes n m (by omega) (by omega) w
  have c2 : Hid _ := holds_any n s w
  have c3 : Hid _ := tooBig_any ao bo n m ca cb (by omega) hn hm A B hA hB w la lb
  cases hz : szb n s with
  | false =>
    rw [bc_size hno hz]
    rw [hz] at c2
    clear la lb hno c3
    go_enter Tryd.func12, Tryd.ntmps12
    go_wp2_with fail
    refine Calls.mono (Hid.out c1) ?_; rintro e w' ⟨rfl, hw'⟩; subst w'
    go_wp2_with fail
    refine Calls.mono (Hid.out c2) ?_; rintro e w' ⟨rfl, hw'⟩; subst w'
    go_wp2_with fail
    go_ret
    exact ⟨rfl, rfl⟩
  | true =>
    rw [hz] at c2
    by_cases hbig : 18446744073709551616 ≤ gr n A * gr m B * (n : Int)
    · rw [bc_big hno hz hbig]
      rw [decide_eq_true hbig] at c3
      clear la lb hno hbig
      go_enter Tryd.func12, Tryd.ntmps12
      go_wp2_with fail
      refine Calls.mono (Hid.out c1) ?_; rintro e w' ⟨rfl, hw'⟩; subst w'
      go_wp2_with fail
      refine Calls.mono (Hid.out c2) ?_; rintro e w' ⟨rfl, hw'⟩; subst w'
      go_wp2_with fail
      refine Calls.mono (Hid.out c3) ?_; rintro e w' ⟨rfl, hw'⟩; subst w'
      go_wp2_with fail
      go_ret
      exact ⟨rfl, rfl⟩
    · rw [bc_ok hno hz hbig]
      rw [decide_eq_false hbig] at c3
      clear la lb hno hbig
      go_enter Tryd.func12, Tryd.ntmps12
      go_wp2_with fail
      refine Calls.mono (Hid.out c1) ?_; rintro e w' ⟨rfl, hw'⟩; subst w'
      go_wp2_with fail
      refine Calls.mono (Hid.out c2) ?_; rintro e w' ⟨rfl, hw'⟩; subst w'
      go_wp2_with fail
      refine Calls.mono (Hid.out c3) ?_; rintro e w' ⟨rfl, hw'⟩; subst w'
      go_wp2_with fail
      go_ret
      exact ⟨rfl, rfl⟩

set_option maxHeartbeats 1000000 in
theorem refBcheck_any (ao bo : Option Addr) (n m ca cb : Nat) (s : Int) (hn : n ≤ 1152921504606846976) (hm : m ≤ 1152921504606846976) (A B : Nat → Int) (hA : ∀ t, A t ≤ 18446744073709551615) (hB : ∀ t, B t ≤ 18446744073709551615) (w : World) (la : Lies w ao n A) (lb : Lies w bo m B) :
    Calls Tryd.prog 13 #[.slice ao n ca, .slice bo m cb, .int .i64 s] w fun e w' => e = .returned (.int .i64 (bc n m A B s)) ∧ w' = w := by
  by_cases hno : n = 0 ∨ m < n
  · rw [bc_none hno]
    have c1 : Hid _ := refSlides_no n m (by omega) w
    clear la lb hno
    go_enter Tryd.func13, Tryd.ntmps13
    go_wp2_with fail
    refine Calls.mono (Hid.out c1) ?_; rintro e w' ⟨rfl, hw'⟩; subst w'
    go_wp2_with fail
    go_ret
    exact ⟨rfl, rfl⟩
  have h1 : 1 ≤ n := by omega
  have c1 : Hid _ := refSlides_yes n m (by omega) (by omega) w
  have c2 : Hid _ := sized_any n s w
  have c3 : Hid _ := refGreatest_any ao n ca hn A w la
  have c4 : Hid _ := refGreatest_any bo m cb hm B w lb
  cases hz : szb n s with
  | false =>
    rw [bc_size hno hz]
    rw [hz] at c2
    clear la lb hno c3 c4
    go_enter Tryd.func13, Tryd.ntmps13
    go_wp2_with fail
    refine Calls.mono (Hid.out c1) ?_; rintro e w' ⟨rfl, hw'⟩; subst w'
    go_wp2_with fail
    refine Calls.mono (Hid.out c2) ?_; rintro e w' ⟨rfl, hw'⟩; subst w'
    go_wp2_with fail
    go_ret
    exact ⟨rfl, rfl⟩
  | true =>
    rw [hz] at c2
    have hX0 : 0 ≤ gr n A := gr_nonneg _ _
    have hY0 : 0 ≤ gr m B := gr_nonneg _ _
    have hX1 : gr n A ≤ 18446744073709551615 := gr_hi (by omega) hA n
    have hY1 : gr m B ≤ 18446744073709551615 := gr_hi (by omega) hB m
    have hbb : Hid (18446744073709551616 ≤ gr n A * gr m B * (n : Int) → bc n m A B s = 40) := fun h => bc_big hno hz h
    have hbo : Hid (¬ 18446744073709551616 ≤ gr n A * gr m B * (n : Int) → bc n m A B s = 0) := fun h => bc_ok hno hz h
    clear la lb hA hB hno
    generalize bc n m A B s = E at *
    generalize gr n A = X at *
    generalize gr m B = Y at *
    by_cases hXz : X = 0
    · subst hXz
      obtain rfl := hbo.out (by rw [Int.zero_mul, Int.zero_mul]; omega)
      clear hbb hbo
      go_enter Tryd.func13, Tryd.ntmps13
      go_wp2_with fail
      refine Calls.mono (Hid.out c1) ?_; rintro e w' ⟨rfl, hw'⟩; subst w'
      go_wp2_with fail
      refine Calls.mono (Hid.out c2) ?_; rintro e w' ⟨rfl, hw'⟩; subst w'
      go_wp2_with fail
      refine Calls.mono (Hid.out c3) ?_; rintro e w' ⟨rfl, hw'⟩; subst w'
      go_wp2_with fail
      refine Calls.mono (Hid.out c4) ?_; rintro e w' ⟨rfl, hw'⟩; subst w'
      go_wp2_with fail
      go_ret
      exact ⟨rfl, rfl⟩
    by_cases hYz : Y = 0
    · have eX : (X == 0) = false := beq_eq_false_iff_ne.2 hXz
      subst hYz
      obtain rfl := hbo.out (by rw [Int.mul_zero, Int.zero_mul]; omega)
      clear hbb hbo
      go_enter Tryd.func13, Tryd.ntmps13
      go_wp2_with fail
      refine Calls.mono (Hid.out c1) ?_; rintro e w' ⟨rfl, hw'⟩; subst w'
      go_wp2_with fail
      refine Calls.mono (Hid.out c2) ?_; rintro e w' ⟨rfl, hw'⟩; subst w'
      go_wp2_with fail
      refine Calls.mono (Hid.out c3) ?_; rintro e w' ⟨rfl, hw'⟩; subst w'
      go_wp2_with fail
      refine Calls.mono (Hid.out c4) ?_; rintro e w' ⟨rfl, hw'⟩; subst w'
      go_wp2_with fail
      go_ret
      exact ⟨rfl, rfl⟩
    have hXp : 0 < X := by omega
    have eX : (X == 0) = false := beq_eq_false_iff_ne.2 hXz
    have eY : (Y == 0) = false := beq_eq_false_iff_ne.2 hYz
    obtain ⟨P, hP⟩ : ∃ P, P = X * Y := ⟨_, rfl⟩
    have hP1 : 0 < P := by rw [hP]; exact Int.mul_pos hXp (by omega)
    have q1 := quot_big (x := X) (y := Y) hXp
    rw [← hP] at q1 hbb hbo
    have hPk : P * 1 ≤ P * (n : Int) := Int.mul_le_mul_of_nonneg_left (by omega) (by omega)
    obtain ⟨D, hD⟩ : ∃ D, 18446744073709551615 / X = D := ⟨_, rfl⟩
    rw [hD] at q1
    by_cases hb1 : D < Y
    · obtain rfl := hbb.out (by have := q1.1 hb1; omega)
      clear hP hPk q1 hbb hbo
      go_enter Tryd.func13, Tryd.ntmps13
      go_wp2_with fail
      refine Calls.mono (Hid.out c1) ?_; rintro e w' ⟨rfl, hw'⟩; subst w'
      go_wp2_with fail
      refine Calls.mono (Hid.out c2) ?_; rintro e w' ⟨rfl, hw'⟩; subst w'
      go_wp2_with fail
      refine Calls.mono (Hid.out c3) ?_; rintro e w' ⟨rfl, hw'⟩; subst w'
      go_wp2_with fail
      refine Calls.mono (Hid.out c4) ?_; rintro e w' ⟨rfl, hw'⟩; subst w'
      go_wp2_with fail
      go_ret
      exact ⟨rfl, rfl⟩
    have hPm : P ≤ 18446744073709551615 := by
      rcases Int.lt_or_le P 18446744073709551616 with h | h
      · omega
      · exact absurd (q1.2 h) hb1
    have q2 := quot_big (x := P) (y := (n : Int)) hP1
    obtain ⟨F, hF⟩ : ∃ F, 18446744073709551615 / P = F := ⟨_, rfl⟩
    rw [hF] at q2
    have hP' : X * Y = P := hP.symm
    have hPn : P ≠ 0 := by omega
    by_cases hb2 : F < (n : Int)
    · obtain rfl := hbb.out (q2.1 hb2)
      clear hP hPk q1 q2 hbb hbo
      go_enter Tryd.func13, Tryd.ntmps13
      go_wp2_with fail
      refine Calls.mono (Hid.out c1) ?_; rintro e w' ⟨rfl, hw'⟩; subst w'
      go_wp2_with fail
      refine Calls.mono (Hid.out c2) ?_; rintro e w' ⟨rfl, hw'⟩; subst w'
      go_wp2_with fail
      refine Calls.mono (Hid.out c3) ?_; rintro e w' ⟨rfl, hw'⟩; subst w'
      go_wp2_with fail
      refine Calls.mono (Hid.out c4) ?_; rintro e w' ⟨rfl, hw'⟩; subst w'
      go_wp2_with fail
      go_ret
      exact ⟨rfl, rfl⟩
    · obtain rfl := hbo.out (fun h => hb2 (q2.2 h))
      clear hP hPk q1 q2 hbb hbo
      go_enter Tryd.func13, Tryd.ntmps13
      go_wp2_with fail
      refine Calls.mono (Hid.out c1) ?_; rintro e w' ⟨rfl, hw'⟩; subst w'
      go_wp2_with fail
      refine Calls.mono (Hid.out c2) ?_; rintro e w' ⟨rfl, hw'⟩; subst w'
      go_wp2_with fail
      refine Calls.mono (Hid.out c3) ?_; rintro e w' ⟨rfl, hw'⟩; subst w'
      go_wp2_with fail
      refine Calls.mono (Hid.out c4) ?_; rintro e w' ⟨rfl, hw'⟩; subst w'
      go_wp2_with fail
      go_ret
      exact ⟨rfl, rfl⟩

end Go.Proofs.YtdffofpoilfhiaaDoor
