/- The walk of 'beaglelaw01.ResidueRoots': it answers true; no cell that was there is turned. For the statement's proof. -/
import Derived.OpenShut
import Derived.ProofKit
import Derived.Test.YtfhkpkonabllaaaDoorResAlive
namespace Go.Proofs.YtfhkpkonabllaaaDoor.residueRoots
open Go.ChangeShapes Go.WideShapes Go.ChangeAt Go.RowKit Res
set_option linter.unusedVariables false

theorem two_pow_toNat (l : Nat) : ((2 : Int) ^ l).toNat = 2 ^ l := by
  rw [show (2 : Int) ^ l = ((2 ^ l : Nat) : Int) by rw [Int.natCast_pow]; rfl, Int.toNat_natCast]
set_option maxHeartbeats 1000000 in
theorem walk (k l : Int) (w0 : (Lit.int .i64 k).wf = true) (w1 : (Lit.int .i64 l).wf = true) (w : World) (hT : Tab w) :
    Calls Tryd.prog 6 #[.int .i64 k, .int .i64 l] w fun e w' => e = .returned (.bool true) ∧ Grown w w' := by
  clear w0 w1
  by_cases hn : pr k = 0 ∨ l < 0 ∨ 12 < l
  · have c1 : Hid (Calls _ _ _ _ _) := root_no k l w hT hn
    have c2 : Hid (Calls _ _ _ _ _) := refRoot_no k l w hn
    clear hn
    go_enter Tryd.func6, Tryd.ntmps6
    go_wp2_with fail
    refine Calls.mono (Hid.out c1) ?_; rintro e w' ⟨rfl, hw'⟩; subst w'
    go_wp2_with fail
    refine Calls.mono (Hid.out c2) ?_; rintro e w' ⟨rfl, hw'⟩; subst w'
    go_wp2_with (first | (go_at_call 19; refine (alive_any _ hT).mono ?_;  rintro e w' ⟨rfl, hw'⟩; subst w'))
    go_ret
    exact ⟨rfl, Grown.refl _⟩
  · have hp : pr k ≠ 0 := by omega
    have hl0 : 0 ≤ l := by omega
    have hl1 : l ≤ 12 := by omega
    have hp1 : 167772161 ≤ pr k := pr_pos hp
    have hp2 : pr k ≤ 998244353 := (pr_bd k).2
    clear hn
    have c1 : Hid (Calls _ _ _ _ _) := root_yes k l w hT hp hl0 hl1
    have c2 : Hid (Calls _ _ _ _ _) := refRoot_yes k l w hp hl0 hl1
    have h1 := root_one k l.toNat hp (by omega)
    have hr0 := md_nonneg k (3 ^ ((pr k - 1).toNat / 2 ^ l.toNat))
    have hpw : ∀ j : Nat, j ≤ 12 → 0 ≤ (2 : Int) ^ j ∧ (2 : Int) ^ j ≤ 4096 := by
      intro j hj
      have h := Nat.pow_le_pow_right (n := 2) (by omega) hj
      rw [show (2 : Int) ^ j = ((2 ^ j : Nat) : Int) by rw [Int.natCast_pow]; rfl]
      exact ⟨Int.natCast_nonneg _, Int.ofNat_le.2 h⟩
    obtain ⟨ha0, ha1⟩ := hpw l.toNat (by omega)
    have h2 : 0 < l → md k ((md k (3 ^ ((pr k - 1).toNat / 2 ^ l.toNat))) ^ (2 ^ (l.toNat - 1))) = pr k - 1 := by
      intro hl
      have := root_half k (l.toNat - 1) hp (by omega)
      rw [show (l.toNat - 1) + 1 = l.toNat by omega] at this
      exact this
    have c3 : Hid (Calls _ _ _ _ _) := pow_any k (md k (3 ^ ((pr k - 1).toNat / 2 ^ l.toNat))) (2 ^ l.toNat) w hT hr0 ha0 (by omega)
    rw [two_pow_toNat, h1] at c3
    generalize md k (3 ^ ((pr k - 1).toNat / 2 ^ l.toNat)) = x at *
    clear h1
    by_cases hz : l = 0
    · have hb : (l == 0) = true := beq_iff_eq.2 hz
      clear hz h2 hpw
      go_enter Tryd.func6, Tryd.ntmps6
      go_wp2_with fail
      refine Calls.mono (Hid.out c1) ?_; rintro e w' ⟨rfl, hw'⟩; subst w'
      go_wp2_with fail
      refine Calls.mono (Hid.out c2) ?_; rintro e w' ⟨rfl, hw'⟩; subst w'
      go_wp2_with (first | (go_at_call 19; refine (alive_any _ hT).mono ?_;  rintro e w' ⟨rfl, hw'⟩; subst w'))
      refine Calls.mono (Hid.out c3) ?_; rintro e w' ⟨rfl, hw'⟩; subst w'
      go_wp2_with fail
      go_ret
      exact ⟨rfl, Grown.refl _⟩
    · have hb : (l == 0) = false := beq_eq_false_iff_ne.2 hz
      have hl2 : 1 ≤ l := by omega
      obtain ⟨hb0, hb1⟩ := hpw (l.toNat - 1) (by omega)
      have c4 : Hid (Calls _ _ _ _ _) := pow_any k x (2 ^ (l.toNat - 1)) w hT hr0 hb0 (by omega)
      rw [two_pow_toNat, h2 (by omega)] at c4
      clear hz h2 hpw
      go_enter Tryd.func6, Tryd.ntmps6
      go_wp2_with fail
      refine Calls.mono (Hid.out c1) ?_; rintro e w' ⟨rfl, hw'⟩; subst w'
      go_wp2_with fail
      refine Calls.mono (Hid.out c2) ?_; rintro e w' ⟨rfl, hw'⟩; subst w'
      go_wp2_with (first | (go_at_call 19; refine (alive_any _ hT).mono ?_;  rintro e w' ⟨rfl, hw'⟩; subst w'))
      refine Calls.mono (Hid.out c3) ?_; rintro e w' ⟨rfl, hw'⟩; subst w'
      go_wp2_with fail
      refine Calls.mono (Hid.out c4) ?_; rintro e w' ⟨rfl, hw'⟩; subst w'
      go_wp2_with (first | (go_at_call 12; refine (prime_any _ _ hT).mono ?_;  rintro e w' ⟨rfl, hw'⟩; subst w'))
      go_ret
      exact ⟨rfl, Grown.refl _⟩

end Go.Proofs.YtfhkpkonabllaaaDoor.residueRoots
