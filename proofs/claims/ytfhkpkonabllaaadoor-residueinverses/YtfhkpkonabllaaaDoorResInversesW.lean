/- The walk of 'beaglelaw01.ResidueInverses': it answers true; no cell that was there is turned. For the statement's proof. -/
import Derived.OpenShut
import Derived.ProofKit
import Derived.Test.YtfhkpkonabllaaaDoorResAlive
namespace Go.Proofs.YtfhkpkonabllaaaDoor.residueInverses
open Go.ChangeShapes Go.WideShapes Go.ChangeAt Go.RowKit Res
set_option linter.unusedVariables false

theorem grown_drewN (w : World) (n : Nat) : Grown w (w.drewN n) := by
  induction n with
  | zero => exact Grown.refl w
  | succ n ih => exact Grown.drew ih
set_option maxHeartbeats 1000000 in
theorem walk (k a : Int) (w0 : (Lit.int .i64 k).wf = true) (w1 : (Lit.int .u64 a).wf = true) (w : World) (hT : Tab w) :
    Calls Tryd.prog 5 #[.int .i64 k, .int .u64 a] w fun e w' => e = .returned (.bool true) ∧ Grown w w' := by
  obtain ⟨ha0, ha1⟩ := bounds_u64 w1
  clear w0 w1
  by_cases hz : md k a = 0
  · have c1 : Hid (Calls _ _ _ _ _) := inv_no k a w hT ha0 hz
    have c2 : Hid (Calls _ _ _ _ _) := refInv_no k a w ha0 hz
    have c3 : Hid (Calls _ _ _ _ _) := inv_no k 0 w hT (by omega) (md_zero k)
    clear hz
    go_enter Tryd.func5, Tryd.ntmps5
    go_wp2_with fail
    refine Calls.mono (Hid.out c1) ?_; rintro e w' ⟨rfl, hw'⟩; subst w'
    go_wp2_with fail
    refine Calls.mono (Hid.out c2) ?_; rintro e w' ⟨rfl, hw'⟩; subst w'
    go_wp2_with fail
    refine Calls.mono (Hid.out c3) ?_; rintro e w' ⟨rfl, hw'⟩; subst w'
    go_wp2_with (first | (go_at_call 19; refine (alive_any _ hT).mono ?_;  rintro e w' ⟨rfl, hw'⟩; subst w'))
    go_ret
    exact ⟨rfl, Grown.refl _⟩
  · have hp : pr k ≠ 0 := fun e => hz (md_none e a)
    obtain ⟨hn, hi⟩ := inv_inv k a ha0 hp hz
    have hr := inv_right k a ha0 hp hz
    have c1 : Hid (Calls _ _ _ _ _) := inv_yes k a w hT ha0 hz
    have c2 : Hid (Calls _ _ _ _ _) := refInv_yes k a w ha0 hz
    have hx0 := md_nonneg k (a ^ (pr k - 2).toNat)
    generalize md k (a ^ (pr k - 2).toNat) = x at *
    have c3 : ∀ v, Tab v → Hid (Calls Tryd.prog 22 #[.int .i64 k, .int .u64 x] v fun e w' => e = .returned (.tuple #[.int .u64 (md k a), .bool true]) ∧ w' = v) := by
      intro v hv
      have := inv_yes k x v hv hx0 hn
      rw [hi] at this
      exact this
    have c4 : ∀ v, Tab v → Hid (Calls Tryd.prog 11 #[.int .i64 k, .int .u64 a, .int .u64 x] v fun e w' => e = .returned (.int .u64 1) ∧ w' = v) := by
      intro v hv
      have := mul_any k a x v hv ha0 hx0
      rw [hr] at this
      exact this
    have C3 : Hid _ := c3
    have C4 : Hid _ := c4
    clear hz hp hn hi hr c3 c4
    go_enter Tryd.func5, Tryd.ntmps5
    go_wp2_with fail
    refine Calls.mono (Hid.out c1) ?_; rintro e w' ⟨rfl, hw'⟩; subst w'
    go_wp2_with fail
    refine Calls.mono (Hid.out c2) ?_; rintro e w' ⟨rfl, n, hw'⟩; subst w'
    have hT' := hT.drewN n
    have hg := grown_drewN w n
    generalize w.drewN n = v at *
    clear c1 c2
    go_wp2_with fail
    refine Calls.mono (Hid.out (C3.out v hT')) ?_; rintro e w' ⟨rfl, hw'⟩; subst w'
    go_wp2_with fail
    refine Calls.mono (alive_any v hT') ?_; rintro e w' ⟨rfl, hw'⟩; subst w'
    go_wp2_with fail
    refine Calls.mono (Hid.out (C4.out v hT')) ?_; rintro e w' ⟨rfl, hw'⟩; subst w'
    go_wp2_with fail
    refine Calls.mono (of_any k a v hT' ha0) ?_; rintro e w' ⟨rfl, hw'⟩; subst w'
    go_wp2_with fail
    go_ret
    exact ⟨rfl, hg⟩

end Go.Proofs.YtfhkpkonabllaaaDoor.residueInverses
