/- The walk of 'beaglelaw01.ResidueAll': it answers true; no cell that was there is turned. For the statement's proof. -/
import Derived.OpenShut
import Derived.ProofKit
import Derived.Test.YtfhkpkonabllaaaDoorResAlive
namespace Go.Proofs.YtfhkpkonabllaaaDoor.residueAll
open Go.ChangeShapes Go.WideShapes Go.ChangeAt Go.RowKit Res
set_option linter.unusedVariables false

set_option maxHeartbeats 2000000 in
theorem walk (k a b : Int) (w0 : (Lit.int .i64 k).wf = true) (w1 : (Lit.int .u64 a).wf = true) (w2 : (Lit.int .u64 b).wf = true) (w : World) (hT : Tab w) :
    Calls Tryd.prog 3 #[.int .i64 k, .int .u64 a, .int .u64 b] w fun e w' => e = .returned (.bool true) ∧ Grown w w' := by
  obtain ⟨ha0, ha1⟩ := bounds_u64 w1
  obtain ⟨hb0, hb1⟩ := bounds_u64 w2
  clear w0 w1 w2
  by_cases hp : pr k = 0
  · have hb : (pr k == 0) = true := beq_iff_eq.2 hp
    have e1 := md_none hp (a + b)
    have e2 := md_none hp (a - b)
    have e3 := md_none hp (a * b)
    clear hp
    go_enter Tryd.func3, Tryd.ntmps3
    go_wp2_with (first | (go_at_call 12; refine (prime_any _ _ hT).mono ?_;  rintro e w' ⟨rfl, hw'⟩; subst w') | (go_at_call 13; refine (refPrime_any _ _).mono ?_;  rintro e w' ⟨rfl, hw'⟩; subst w') | (go_at_call 14; refine (of_any _ _ _ hT ?h0).mono ?_; (case h0 => omega); rintro e w' ⟨rfl, hw'⟩; subst w') | (go_at_call 15; refine (refOf_any _ _ _ ?h0).mono ?_; (case h0 => omega); rintro e w' ⟨rfl, hw'⟩; subst w') | (go_at_call 9; refine (add_any _ _ _ _ hT ?h0 ?h1).mono ?_; (case h0 => omega); (case h1 => omega); rintro e w' ⟨rfl, hw'⟩; subst w') | (go_at_call 10; refine (sub_any _ _ _ _ hT ?h0 ?h1).mono ?_; (case h0 => omega); (case h1 => omega); rintro e w' ⟨rfl, hw'⟩; subst w') | (go_at_call 11; refine (mul_any _ _ _ _ hT ?h0 ?h1).mono ?_; (case h0 => omega); (case h1 => omega); rintro e w' ⟨rfl, hw'⟩; subst w') | (go_at_call 16; refine (refAdd_any _ _ _ _ ?h0 ?h1).mono ?_; (case h0 => omega); (case h1 => omega); rintro e w' ⟨rfl, hw'⟩; subst w') | (go_at_call 17; refine (refSub_any _ _ _ _ ?h0 ?h1).mono ?_; (case h0 => omega); (case h1 => omega); rintro e w' ⟨rfl, hw'⟩; subst w') | (go_at_call 18; refine (refMul_any _ _ _ _ ?h0 ?h1).mono ?_; (case h0 => omega); (case h1 => omega); rintro e w' ⟨rfl, hw'⟩; subst w') | (go_at_call 19; refine (alive_any _ hT).mono ?_;  rintro e w' ⟨rfl, hw'⟩; subst w'))
    go_ret
    exact ⟨rfl, Grown.refl _⟩
  · have hb : (pr k == 0) = false := beq_eq_false_iff_ne.2 hp
    have e1 := md_lt hp (a + b)
    have e2 := md_lt hp (a - b)
    have e3 := md_lt hp (a * b)
    clear hp
    go_enter Tryd.func3, Tryd.ntmps3
    go_wp2_with (first | (go_at_call 12; refine (prime_any _ _ hT).mono ?_;  rintro e w' ⟨rfl, hw'⟩; subst w') | (go_at_call 13; refine (refPrime_any _ _).mono ?_;  rintro e w' ⟨rfl, hw'⟩; subst w') | (go_at_call 14; refine (of_any _ _ _ hT ?h0).mono ?_; (case h0 => omega); rintro e w' ⟨rfl, hw'⟩; subst w') | (go_at_call 15; refine (refOf_any _ _ _ ?h0).mono ?_; (case h0 => omega); rintro e w' ⟨rfl, hw'⟩; subst w') | (go_at_call 9; refine (add_any _ _ _ _ hT ?h0 ?h1).mono ?_; (case h0 => omega); (case h1 => omega); rintro e w' ⟨rfl, hw'⟩; subst w') | (go_at_call 10; refine (sub_any _ _ _ _ hT ?h0 ?h1).mono ?_; (case h0 => omega); (case h1 => omega); rintro e w' ⟨rfl, hw'⟩; subst w') | (go_at_call 11; refine (mul_any _ _ _ _ hT ?h0 ?h1).mono ?_; (case h0 => omega); (case h1 => omega); rintro e w' ⟨rfl, hw'⟩; subst w') | (go_at_call 16; refine (refAdd_any _ _ _ _ ?h0 ?h1).mono ?_; (case h0 => omega); (case h1 => omega); rintro e w' ⟨rfl, hw'⟩; subst w') | (go_at_call 17; refine (refSub_any _ _ _ _ ?h0 ?h1).mono ?_; (case h0 => omega); (case h1 => omega); rintro e w' ⟨rfl, hw'⟩; subst w') | (go_at_call 18; refine (refMul_any _ _ _ _ ?h0 ?h1).mono ?_; (case h0 => omega); (case h1 => omega); rintro e w' ⟨rfl, hw'⟩; subst w') | (go_at_call 19; refine (alive_any _ hT).mono ?_;  rintro e w' ⟨rfl, hw'⟩; subst w'))
    go_ret
    exact ⟨rfl, Grown.refl _⟩

end Go.Proofs.YtfhkpkonabllaaaDoor.residueAll
