/- Contract of the document's own Size of layer 10. -/
import Derived.Test.YtlogdjhnhnfbkaaDoorBlkA
import Derived.Test.YtlogdjhnhnfbkaaDoorNttLog
namespace Go.Proofs.YtlogdjhnhnfbkaaDoor
open Go.RowKit Res
namespace Cls

set_option maxHeartbeats 1000000 in
theorem refSize10_any (n m : Nat) (z : Int) (w : World) :
    Calls Tryd.prog 40 #[.int .i64 (n : Int), .int .i64 (m : Int), .int .i64 z] w fun e w' => e = .returned (.bool (decide (n ≤ m) && !szb n z)) ∧ w' = w := by
  by_cases hp : ∃ l : Nat, l ≤ 12 ∧ z = 2 ^ l
  · obtain ⟨l, hl, hz⟩ := hp
    have cl : Hid _ := refLog_yes z l hl hz w
    by_cases hzn : (n : Int) ≤ z
    · have hs : szb n z = true := szb_of hl hz hzn
      have hq : ¬ z < (n : Int) := by omega
      rw [hs]
      clear hz hs
      by_cases hnm : n ≤ m
      · have hI : (n : Int) ≤ (m : Int) := by omega
        rw [decide_eq_true hnm]
        go_enter Tryd.func40, Tryd.ntmps40
        go_wp2_with fail
        refine Calls.mono (Hid.out cl) ?_; rintro e w' ⟨rfl, hw'⟩; subst w'
        go_wp2_with fail
        go_ret
        exact ⟨by first | rfl | (show Ending.returned (Value.bool (decide (z < (n : Int)))) = _; rw [show decide (z < (n : Int)) = false from decide_eq_false (by omega)]; rfl) | (show Ending.returned (Value.bool (decide (z < (n : Int)))) = _; rw [show decide (z < (n : Int)) = true from decide_eq_true (by omega)]; rfl), rfl⟩
      · have hI : ¬ (n : Int) ≤ (m : Int) := by omega
        rw [decide_eq_false hnm]
        go_enter Tryd.func40, Tryd.ntmps40
        go_wp2_with fail
        refine Calls.mono (Hid.out cl) ?_; rintro e w' ⟨rfl, hw'⟩; subst w'
        go_wp2_with fail
        go_ret
        exact ⟨by first | rfl | (show Ending.returned (Value.bool (decide (z < (n : Int)))) = _; rw [show decide (z < (n : Int)) = false from decide_eq_false (by omega)]; rfl) | (show Ending.returned (Value.bool (decide (z < (n : Int)))) = _; rw [show decide (z < (n : Int)) = true from decide_eq_true (by omega)]; rfl), rfl⟩
    · have hs : szb n z = false := by
        cases h : szb n z with
        | false => rfl
        | true => obtain ⟨_, _, _, h4⟩ := szb_yes h; omega
      have hq : z < (n : Int) := by omega
      rw [hs]
      clear hz hs
      by_cases hnm : n ≤ m
      · have hI : (n : Int) ≤ (m : Int) := by omega
        rw [decide_eq_true hnm]
        go_enter Tryd.func40, Tryd.ntmps40
        go_wp2_with fail
        refine Calls.mono (Hid.out cl) ?_; rintro e w' ⟨rfl, hw'⟩; subst w'
        go_wp2_with fail
        go_ret
        exact ⟨by first | rfl | (show Ending.returned (Value.bool (decide (z < (n : Int)))) = _; rw [show decide (z < (n : Int)) = false from decide_eq_false (by omega)]; rfl) | (show Ending.returned (Value.bool (decide (z < (n : Int)))) = _; rw [show decide (z < (n : Int)) = true from decide_eq_true (by omega)]; rfl), rfl⟩
      · have hI : ¬ (n : Int) ≤ (m : Int) := by omega
        rw [decide_eq_false hnm]
        go_enter Tryd.func40, Tryd.ntmps40
        go_wp2_with fail
        refine Calls.mono (Hid.out cl) ?_; rintro e w' ⟨rfl, hw'⟩; subst w'
        go_wp2_with fail
        go_ret
        exact ⟨by first | rfl | (show Ending.returned (Value.bool (decide (z < (n : Int)))) = _; rw [show decide (z < (n : Int)) = false from decide_eq_false (by omega)]; rfl) | (show Ending.returned (Value.bool (decide (z < (n : Int)))) = _; rw [show decide (z < (n : Int)) = true from decide_eq_true (by omega)]; rfl), rfl⟩
  · have cl : Hid _ := refLog_no z (fun l hl hz => hp ⟨l, hl, hz⟩) w
    have hs : szb n z = false := by
      cases h : szb n z with
      | false => rfl
      | true => obtain ⟨l, h2, h3, h4⟩ := szb_yes h; exact absurd ⟨l, h2, h3⟩ hp
    rw [hs]
    clear hs hp
    by_cases hnm : n ≤ m
    · have hI : (n : Int) ≤ (m : Int) := by omega
      rw [decide_eq_true hnm]
      go_enter Tryd.func40, Tryd.ntmps40
      go_wp2_with fail
      refine Calls.mono (Hid.out cl) ?_; rintro e w' ⟨rfl, hw'⟩; subst w'
      go_wp2_with fail
      go_ret
      exact ⟨by first | rfl | (show Ending.returned (Value.bool (decide (z < (n : Int)))) = _; rw [show decide (z < (n : Int)) = false from decide_eq_false (by omega)]; rfl) | (show Ending.returned (Value.bool (decide (z < (n : Int)))) = _; rw [show decide (z < (n : Int)) = true from decide_eq_true (by omega)]; rfl), rfl⟩
    · have hI : ¬ (n : Int) ≤ (m : Int) := by omega
      rw [decide_eq_false hnm]
      go_enter Tryd.func40, Tryd.ntmps40
      go_wp2_with fail
      refine Calls.mono (Hid.out cl) ?_; rintro e w' ⟨rfl, hw'⟩; subst w'
      go_wp2_with fail
      go_ret
      exact ⟨by first | rfl | (show Ending.returned (Value.bool (decide (z < (n : Int)))) = _; rw [show decide (z < (n : Int)) = false from decide_eq_false (by omega)]; rfl) | (show Ending.returned (Value.bool (decide (z < (n : Int)))) = _; rw [show decide (z < (n : Int)) = true from decide_eq_true (by omega)]; rfl), rfl⟩

end Cls
end Go.Proofs.YtlogdjhnhnfbkaaDoor
