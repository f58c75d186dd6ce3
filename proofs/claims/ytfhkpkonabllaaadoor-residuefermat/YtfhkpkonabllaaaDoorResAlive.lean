/- Contract of beaglelaw01.alive: it tells true. -/
import Derived.Test.YtfhkpkonabllaaaDoorResInv
namespace Go.Proofs.YtfhkpkonabllaaaDoor
open Go.RowKit Res

theorem alive_inv : md 2 (2 ^ (pr 2 - 2).toNat) = 234881025 :=
  inv_unique (k := 2) (a := 2) (by have := inv_right 2 2 (by decide) (by decide) (by decide); exact this) (by decide) (md_nonneg _ _) (md_lt (by decide) _) (by decide) (by decide)
theorem alive_root : md 0 (3 ^ ((pr 0 - 1).toNat / 2 ^ (1 : Int).toNat)) = 998244352 := by
  have := three_half 0 (by decide)
  rw [show (2 : Nat) ^ (1 : Int).toNat = 2 by decide, this]; decide

set_option maxHeartbeats 1000000 in
theorem alive_any (w : World) (hT : Tab w) : Calls Tryd.prog 19 #[] w fun e w' => e = .returned (.bool true) ∧ w' = w := by
  have i1 : Hid (Calls _ _ _ _ _) := inv_yes 2 2 w hT (by decide) (by decide)
  rw [alive_inv] at i1
  have i2 : Hid (Calls _ _ _ _ _) := inv_no 0 998244353 w hT (by decide) (by decide)
  have r1 : Hid (Calls _ _ _ _ _) := root_yes 0 1 w hT (by decide) (by decide) (by decide)
  rw [alive_root] at r1
  have r2 : Hid (Calls _ _ _ _ _) := root_no 0 13 w hT (by decide)
  have p1 : Hid (Calls _ _ _ _ _) := prime_any 1 w hT
  rw [show pr 1 = 167772161 by decide] at p1
  have p3 : Hid (Calls _ _ _ _ _) := prime_any 3 w hT
  rw [show pr 3 = 0 by decide] at p3
  have o1 : Hid (Calls _ _ _ _ _) := of_any 0 998244354 w hT (by decide)
  rw [show md 0 998244354 = 1 by decide] at o1
  have a1 : Hid (Calls _ _ _ _ _) := add_any 0 998244352 2 w hT (by decide) (by decide)
  rw [show md 0 (998244352 + 2) = 1 by decide] at a1
  have s1 : Hid (Calls _ _ _ _ _) := sub_any 0 1 2 w hT (by decide) (by decide)
  rw [show md 0 (1 - 2) = 998244352 by decide] at s1
  have m1 : Hid (Calls _ _ _ _ _) := mul_any 0 998244352 2 w hT (by decide) (by decide)
  rw [show md 0 (998244352 * 2) = 998244351 by decide] at m1
  have q1 : Hid (Calls _ _ _ _ _) := pow_any 1 2 10 w hT (by decide) (by decide) (by decide)
  rw [show md 1 (2 ^ (10 : Int).toNat) = 1024 by decide] at q1
  go_enter Tryd.func19, Tryd.ntmps19
  go_wp2_with fail
  refine Calls.mono i1.out ?_; rintro e w' ⟨rfl, hw'⟩; subst w'
  go_wp2_with fail
  refine Calls.mono i2.out ?_; rintro e w' ⟨rfl, hw'⟩; subst w'
  go_wp2_with fail
  refine Calls.mono r1.out ?_; rintro e w' ⟨rfl, hw'⟩; subst w'
  go_wp2_with fail
  refine Calls.mono r2.out ?_; rintro e w' ⟨rfl, hw'⟩; subst w'
  go_wp2_with fail
  refine Calls.mono p1.out ?_; rintro e w' ⟨rfl, hw'⟩; subst w'
  go_wp2_with fail
  refine Calls.mono p3.out ?_; rintro e w' ⟨rfl, hw'⟩; subst w'
  go_wp2_with fail
  refine Calls.mono o1.out ?_; rintro e w' ⟨rfl, hw'⟩; subst w'
  go_wp2_with fail
  refine Calls.mono a1.out ?_; rintro e w' ⟨rfl, hw'⟩; subst w'
  go_wp2_with fail
  refine Calls.mono s1.out ?_; rintro e w' ⟨rfl, hw'⟩; subst w'
  go_wp2_with fail
  refine Calls.mono m1.out ?_; rintro e w' ⟨rfl, hw'⟩; subst w'
  go_wp2_with fail
  refine Calls.mono q1.out ?_; rintro e w' ⟨rfl, hw'⟩; subst w'
  go_wp2_with fail
  go_ret
  exact ⟨rfl, rfl⟩
end Go.Proofs.YtfhkpkonabllaaaDoor
