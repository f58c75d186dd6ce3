/- The walk of 'beaglelaw05.BlockCounts': it answers true; nothing that was there is turned. For the statement's proof. -/
import Derived.OpenShut
import Derived.ProofKit
import Derived.Test.YtdffofpoilfhiaaDoorBlkAli
namespace Go.Proofs.YtdffofpoilfhiaaDoor.blockCounts
open Go.ChangeShapes Go.WideShapes Go.ChangeAt Go.RowKit Res
set_option linter.unusedVariables false

set_option maxHeartbeats 2000000 in
theorem walk (m n s : Int) (w : World) (w0 : (Lit.int .i64 m).wf = true) (w1 : (Lit.int .i64 n).wf = true) (w2 : (Lit.int .i64 s).wf = true) (hT : Tab w) :
    Calls Tryd.prog 4 #[.int .i64 m, .int .i64 n, .int .i64 s] w fun e w' => e = .returned (.bool true) ∧ Below w.heap.size w w' := by
  have al : Hid _ := balive_any w hT
  have c1 : Hid _ := count_any m n s w
  have c2 : Hid _ := fun v => refCount_any m n s v
  have c3 : Hid _ := fun v => count_any m (n + 1) s v
  have hn : -9223372036854775808 ≤ n ∧ n ≤ 9223372036854775807 := by simp [Lit.wf] at w1; rw [show IntKind.i64.min = -9223372036854775808 from rfl] at w1; exact w1
  have hge : 0 ≤ ct m n s := by rcases ct_ge m n s with h | h <;> omega
  have hmo := ct_mono m n s
  clear w0 w1 w2 hT
  generalize ct m n s = A at *
  generalize ct m (n + 1) s = B at *
  have hself : (A == A) = true := beq_iff_eq.2 rfl
  have d0 : decide (0 ≤ A) = true := decide_eq_true hge
  have d1 : decide (A ≤ B) = true := decide_eq_true hmo
  by_cases hb : 1125899906842624 < n
  · have d2 : decide (1125899906842624 < n) = true := decide_eq_true hb
    go_enter Tryd.func4, Tryd.ntmps4
    go_wp2_with fail
    refine Calls.mono (Hid.out c1) ?_; rintro e w' ⟨rfl, hw'⟩; subst w'
    go_wp2_with fail
    refine Calls.mono (Hid.out al) ?_; rintro e w1 ⟨rfl, hb⟩
    have HB : Hid _ := hb
    clear hb
    go_wp2_with fail
    refine Calls.mono (c2.out w1) ?_; rintro e w' ⟨rfl, hw'⟩; subst w'
    go_wp2_with fail
    go_ret
    exact ⟨rfl, HB.out⟩
  · have d2 : decide (1125899906842624 < n) = false := decide_eq_false hb
    go_enter Tryd.func4, Tryd.ntmps4
    go_wp2_with fail
    refine Calls.mono (Hid.out c1) ?_; rintro e w' ⟨rfl, hw'⟩; subst w'
    go_wp2_with fail
    refine Calls.mono (Hid.out al) ?_; rintro e w1 ⟨rfl, hb⟩
    have HB : Hid _ := hb
    clear hb
    go_wp2_with fail
    refine Calls.mono (c2.out w1) ?_; rintro e w' ⟨rfl, hw'⟩; subst w'
    go_wp2_with fail
    refine Calls.mono (c3.out w1) ?_; rintro e w' ⟨rfl, hw'⟩; subst w'
    go_wp2_with fail
    go_ret
    exact ⟨rfl, HB.out⟩

end Go.Proofs.YtdffofpoilfhiaaDoor.blockCounts
