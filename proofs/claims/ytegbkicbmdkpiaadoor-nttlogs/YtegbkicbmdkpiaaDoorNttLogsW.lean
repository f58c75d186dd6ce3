/- The walk of 'beaglelaw02.NttLogs': it answers true; nothing that was there is turned. For the statement's proof. -/
import Derived.OpenShut
import Derived.ProofKit
import Derived.Test.YtegbkicbmdkpiaaDoorNttAlive
namespace Go.Proofs.YtegbkicbmdkpiaaDoor.nttLogs
open Go.ChangeShapes Go.WideShapes Go.ChangeAt Go.RowKit Res
set_option linter.unusedVariables false

set_option maxHeartbeats 1000000 in
theorem walk (n : Int) (w : World) (w0 : (Lit.int .i64 n).wf = true) (hT : Tab w) :
    Calls Tryd.prog 3 #[.int .i64 n] w fun e w' => e = .returned (.bool true) ∧ Below w.heap.size w w' := by
  clear w0
  have al : Hid _ := alive_any w hT
  by_cases hn : NoLog n
  · have c1 : Hid _ := log_no n hn w
    have c2 : Hid _ := refLog_no n hn w
    clear hn hT
    go_enter Tryd.func3, Tryd.ntmps3
    go_wp2_with fail
    refine Calls.mono (Hid.out c1) ?_; rintro e w' ⟨rfl, hw'⟩; subst w'
    go_wp2_with fail
    refine Calls.mono (Hid.out c2) ?_; rintro e w' ⟨rfl, hw'⟩; subst w'
    go_wp2_with fail
    refine Calls.mono (Hid.out al) ?_; rintro e w1 ⟨rfl, hb⟩
    have HB : Hid _ := hb
    clear hb
    go_wp2_with fail
    go_ret
    exact ⟨rfl, HB.out⟩
  · obtain ⟨m, hm, hn2⟩ : ∃ m : Nat, m ≤ 12 ∧ n = 2 ^ m := by
      refine Classical.byContradiction fun h => hn fun m hm e => h ⟨m, hm, e⟩
    have c1 : Hid _ := log_yes n m hm hn2 w
    have c2 : Hid _ := refLog_yes n m hm hn2 w
    have hbd := two_pow_bd m (by omega)
    have hne : ((2 : Int) ^ m == n) = true := beq_iff_eq.2 hn2.symm
    clear hn hT hn2
    go_enter Tryd.func3, Tryd.ntmps3
    go_wp2_with fail
    refine Calls.mono (Hid.out c1) ?_; rintro e w' ⟨rfl, hw'⟩; subst w'
    go_wp2_with fail
    refine Calls.mono (Hid.out c2) ?_; rintro e w' ⟨rfl, hw'⟩; subst w'
    go_wp2_with fail
    refine Calls.mono (Hid.out al) ?_; rintro e w1 ⟨rfl, hb⟩
    have HB : Hid _ := hb
    clear hb
    go_wp2_with fail
    go_ret
    exact ⟨rfl, HB.out⟩

end Go.Proofs.YtegbkicbmdkpiaaDoor.nttLogs
