/- The walk of 'beaglelaw01.ResidueFermat': it answers true; no cell that was there is turned. For the statement's proof. -/
import Derived.OpenShut
import Derived.ProofKit
import Derived.Test.YtfhkpkonabllaaaDoorResAlive
namespace Go.Proofs.YtfhkpkonabllaaaDoor.residueFermat
open Go.ChangeShapes Go.WideShapes Go.ChangeAt Go.RowKit Res
set_option linter.unusedVariables false

set_option maxHeartbeats 400000 in
theorem walk (k a : Int) (w0 : (Lit.int .i64 k).wf = true) (w1 : (Lit.int .u64 a).wf = true) (w : World) (hT : Tab w) :
    Calls Tryd.prog 8 #[.int .i64 k, .int .u64 a] w fun e w' => e = .returned (.bool true) ∧ Grown w w' := by
  obtain ⟨ha0, ha1⟩ := bounds_u64 w1
  clear w0 w1
  have hp2 : pr k ≤ 998244353 := (pr_bd k).2
  by_cases hp : pr k = 0
  · have hb : (pr k == 0) = true := beq_iff_eq.2 hp
    clear hp
    go_enter Tryd.func8, Tryd.ntmps8
    go_wp2_with (first | (go_at_call 12; refine (prime_any _ _ hT).mono ?_; rintro e w' ⟨rfl, hw'⟩; subst w') | (go_at_call 19; refine (alive_any _ hT).mono ?_; rintro e w' ⟨rfl, hw'⟩; subst w'))
    go_ret
    exact ⟨rfl, Grown.refl _⟩
  have hb : (pr k == 0) = false := beq_eq_false_iff_ne.2 hp
  have hp1 : 167772161 ≤ pr k := pr_pos hp
  by_cases hz : md k a = 0
  · have hz1 : (md k a == 0) = true := beq_iff_eq.2 hz
    clear hp hz
    go_enter Tryd.func8, Tryd.ntmps8
    go_wp2_with (first | (go_at_call 12; refine (prime_any _ _ hT).mono ?_; rintro e w' ⟨rfl, hw'⟩; subst w') | (go_at_call 19; refine (alive_any _ hT).mono ?_; rintro e w' ⟨rfl, hw'⟩; subst w') | (go_at_call 14; refine (of_any _ _ _ hT ?h0).mono ?_; (case h0 => omega); rintro e w' ⟨rfl, hw'⟩; subst w'))
    go_ret
    exact ⟨rfl, Grown.refl _⟩
  · have hz1 : (md k a == 0) = false := beq_eq_false_iff_ne.2 hz
    have hf := fermat k a ha0 hp hz
    have hq : Hid (Calls _ _ _ _ _) := pow_any k a (pr k - 1) w hT ha0 (by omega) (by omega)
    rw [hf] at hq
    clear hp hz hf
    go_enter Tryd.func8, Tryd.ntmps8
    go_wp2_with (first | (go_at_call 12; refine (prime_any _ _ hT).mono ?_; rintro e w' ⟨rfl, hw'⟩; subst w') | (go_at_call 19; refine (alive_any _ hT).mono ?_; rintro e w' ⟨rfl, hw'⟩; subst w') | (go_at_call 14; refine (of_any _ _ _ hT ?h0).mono ?_; (case h0 => omega); rintro e w' ⟨rfl, hw'⟩; subst w') | (go_at_call 20; refine Calls.mono hq.out ?_; rintro e w' ⟨rfl, hw'⟩; subst w'))
    go_ret
    exact ⟨rfl, Grown.refl _⟩

end Go.Proofs.YtfhkpkonabllaaaDoor.residueFermat
