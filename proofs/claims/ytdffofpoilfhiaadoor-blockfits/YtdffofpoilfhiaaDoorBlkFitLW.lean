/- The walk of 'beaglelaw05.BlockFits': it answers true; nothing that was there is turned. For the statement's proof. -/
import Derived.OpenShut
import Derived.ProofKit
import Derived.Test.YtdffofpoilfhiaaDoorBlkAli
namespace Go.Proofs.YtdffofpoilfhiaaDoor.blockFits
open Go.ChangeShapes Go.WideShapes Go.ChangeAt Go.RowKit Res
set_option linter.unusedVariables false

set_option maxHeartbeats 2000000 in
theorem walk (m n : Int) (w : World) (w0 : (Lit.int .i64 m).wf = true) (w1 : (Lit.int .i64 n).wf = true) (hT : Tab w) :
    Calls Tryd.prog 5 #[.int .i64 m, .int .i64 n] w fun e w' => e = .returned (.bool true) ∧ Below w.heap.size w w' := by
  have al : Hid _ := balive_any w hT
  have c1 : Hid _ := fit_any m n w
  have c2 : Hid _ := fun v => refFit_any m n v
  clear w0 w1 hT
  by_cases hno : m < 1 ∨ n < m ∨ 4096 < m
  · rw [(fb_zero m n).2 hno] at c1 c2
    have hcs : (m < 1) ∨ (¬ m < 1 ∧ n < m) ∨ (¬ m < 1 ∧ ¬ n < m ∧ 4096 < m) := by omega
    clear hno
    rcases hcs with h1 | ⟨h1, h2⟩ | ⟨h1, h2, h3⟩
    · have d1 : decide (m < 1) = true := decide_eq_true h1
      go_enter Tryd.func5, Tryd.ntmps5
      go_wp2_with fail
      refine Calls.mono (Hid.out c1) ?_; rintro e w' ⟨rfl, hw'⟩; subst w'
      go_wp2_with fail
      refine Calls.mono (Hid.out al) ?_; rintro e w1 ⟨rfl, hb⟩
      have HB : Hid _ := hb
      clear hb
      go_wp2_with fail
      refine Calls.mono (c2.out w1) ?_; rintro e w' ⟨rfl, hw'⟩; subst w'
      go_wp2_with fail
      go_ret
      exact ⟨rfl, HB.out⟩
    · have d1 : decide (m < 1) = false := decide_eq_false h1
      have d2 : decide (n < m) = true := decide_eq_true h2
      go_enter Tryd.func5, Tryd.ntmps5
      go_wp2_with fail
      refine Calls.mono (Hid.out c1) ?_; rintro e w' ⟨rfl, hw'⟩; subst w'
      go_wp2_with fail
      refine Calls.mono (Hid.out al) ?_; rintro e w1 ⟨rfl, hb⟩
      have HB : Hid _ := hb
      clear hb
      go_wp2_with fail
      refine Calls.mono (c2.out w1) ?_; rintro e w' ⟨rfl, hw'⟩; subst w'
      go_wp2_with fail
      go_ret
      exact ⟨rfl, HB.out⟩
    · have d1 : decide (m < 1) = false := decide_eq_false h1
      have d2 : decide (n < m) = false := decide_eq_false h2
      have d3 : decide (4096 < m) = true := decide_eq_true h3
      go_enter Tryd.func5, Tryd.ntmps5
      go_wp2_with fail
      refine Calls.mono (Hid.out c1) ?_; rintro e w' ⟨rfl, hw'⟩; subst w'
      go_wp2_with fail
      refine Calls.mono (Hid.out al) ?_; rintro e w1 ⟨rfl, hb⟩
      have HB : Hid _ := hb
      clear hb
      go_wp2_with fail
      refine Calls.mono (c2.out w1) ?_; rintro e w' ⟨rfl, hw'⟩; subst w'
      go_wp2_with fail
      go_ret
      exact ⟨rfl, HB.out⟩
  · have hne : (fb m n 13).1 ≠ 0 := fun h => hno ((fb_zero m n).1 h)
    have hp := (fb_pos hne).1
    have c3 : Hid _ := fun v => count_any m n (fb m n 13).1 v
    generalize (fb m n 13).1 = F at *
    generalize ct m n F = C at *
    have hself : (F == F) = true := beq_iff_eq.2 rfl
    have hF0 : (F == 0) = false := beq_eq_false_iff_ne.2 hne
    have d1 : decide (m < 1) = false := decide_eq_false (by omega)
    have d2 : decide (n < m) = false := decide_eq_false (by omega)
    have d3 : decide (4096 < m) = false := decide_eq_false (by omega)
    have d4 : decide (0 < C) = true := decide_eq_true (by omega)
    have h1 : ¬ m < 1 := by omega
    have h2 : ¬ n < m := by omega
    have h3 : ¬ 4096 < m := by omega
    have h4 : 0 < C := by omega
    clear hno hp hne
    go_enter Tryd.func5, Tryd.ntmps5
    go_wp2_with fail
    refine Calls.mono (Hid.out c1) ?_; rintro e w' ⟨rfl, hw'⟩; subst w'
    go_wp2_with fail
    refine Calls.mono (Hid.out al) ?_; rintro e w1 ⟨rfl, hb⟩
    have HB : Hid _ := hb
    clear hb
    go_wp2_with fail
    refine Calls.mono (c2.out w1) ?_; rintro e w' ⟨rfl, hw'⟩; subst w'
    go_wp2_with fail
    refine Calls.mono (c3.out w1) ?_; rintro e w' ⟨rfl, hw'⟩; subst w'
    go_wp2_with fail
    go_ret
    exact ⟨rfl, HB.out⟩

end Go.Proofs.YtdffofpoilfhiaaDoor.blockFits
