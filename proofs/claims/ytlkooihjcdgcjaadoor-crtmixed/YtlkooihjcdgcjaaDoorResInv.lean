/- Contracts of the inverses and roots of residue and of the document's own answers. -/
import Derived.Test.YtlkooihjcdgcjaaDoorResPow
import Derived.Deep.QuietTactic
import Derived.BigQuiet
namespace Go.Proofs.YtlkooihjcdgcjaaDoor
open Go.RowKit Res
theorem ret_two {a b : Int} {x y : Bool} (h : a = b) (h2 : x = y) : Ending.returned (.tuple #[.int .u64 a, .bool x]) = .returned (.tuple #[.int .u64 b, .bool y]) := by rw [h, h2]

set_option maxHeartbeats 400000 in
theorem inv_no (k a : Int) (w : World) (hT : Tab w) (h0 : 0 ≤ a) (hz : md k a = 0) : Calls Tryd.prog 31 #[.int .i64 k, .int .u64 a] w fun e w' => e = .returned (.tuple #[.int .u64 0, .bool false]) ∧ w' = w := by
  have hb : (md k a == 0) = true := beq_iff_eq.2 hz
  clear hz
  go_enter Tryd.func31, Tryd.ntmps31
  go_wp2_with (go_at_call 14; refine (of_any _ _ _ hT ?h0).mono ?_; (case h0 => omega); rintro e w' ⟨rfl, rfl⟩)
  go_ret2
  exact ⟨rfl, rfl⟩

set_option maxHeartbeats 400000 in
theorem inv_yes (k a : Int) (w : World) (hT : Tab w) (h0 : 0 ≤ a) (hz : md k a ≠ 0) : Calls Tryd.prog 31 #[.int .i64 k, .int .u64 a] w fun e w' => e = .returned (.tuple #[.int .u64 (md k (a ^ (pr k - 2).toNat)), .bool true]) ∧ w' = w := by
  have hb : (md k a == 0) = false := beq_eq_false_iff_ne.2 hz
  have hp1 : 167772161 ≤ pr k := pr_pos (fun e => hz (md_none e a))
  have hp2 : pr k ≤ 998244353 := (pr_bd k).2
  clear hz
  go_enter Tryd.func31, Tryd.ntmps31
  go_wp2_with (first | (go_at_call 14; refine (of_any _ _ _ hT ?h0).mono ?_; (case h0 => omega); rintro e w' ⟨rfl, rfl⟩) | (go_at_call 13; refine (prime_any _ _ hT).mono ?_; rintro e w' ⟨rfl, rfl⟩) | (go_at_call 37; refine (pow_any _ _ _ _ hT ?h0 ?h1 ?h2).mono ?_; (case h0 => omega); (case h1 => omega); (case h2 => omega); rintro e w' ⟨rfl, rfl⟩))
  go_ret2
  exact ⟨rfl, rfl⟩

set_option maxHeartbeats 400000 in
theorem refInv_no (k a : Int) (w : World) (h0 : 0 ≤ a) (hz : md k a = 0) : Calls Tryd.prog 32 #[.int .i64 k, .int .u64 a] w fun e w' => e = .returned (.tuple #[.int .u64 0, .bool false]) ∧ w' = w := by
  have hb : (md k a == 0) = true := beq_iff_eq.2 hz
  clear hz
  go_enter Tryd.func32, Tryd.ntmps32
  go_wp2_with (go_at_call 33; refine (refOf_any _ _ _ ?h0).mono ?_; (case h0 => omega); rintro e w' ⟨rfl, rfl⟩)
  go_ret2
  exact ⟨rfl, rfl⟩

set_option maxHeartbeats 1000000 in
theorem refInv_yes (k a : Int) (w : World) (h0 : 0 ≤ a) (hz : md k a ≠ 0) : Calls Tryd.prog 32 #[.int .i64 k, .int .u64 a] w fun e w' => e = .returned (.tuple #[.int .u64 (md k (a ^ (pr k - 2).toNat)), .bool true]) ∧ ∃ n, w' = w.drewN n := by
  have hp : pr k ≠ 0 := fun e => hz (md_none e a)
  have hS := euc_start k a h0 hp hz
  have hb : (md k a == 0) = false := beq_eq_false_iff_ne.2 hz
  have hz' : Hid (md k a ≠ 0) := hz
  have hp1 : 167772161 ≤ pr k := pr_pos hp
  have hp2 : pr k ≤ 998244353 := (pr_bd k).2
  clear hz hp
  go_enter Tryd.func32, Tryd.ntmps32
  go_wp2_with (first | (go_at_call 33; refine (refOf_any _ _ _ ?h0).mono ?_; (case h0 => omega); rintro e w' ⟨rfl, hw'⟩; subst w') | (go_at_call 34; refine (refPrime_any _ _).mono ?_; rintro e w' ⟨rfl, hw'⟩; subst w'))
  go_loopw [6, 7, 8, 9] (fun r s u v wx => ∃ R S U V : Int, r = .int .u64 R ∧ s = .int .u64 S ∧ u = .int .u64 U ∧ v = .int .u64 V ∧ Euc k a R S U V ∧ ∃ n, wx = w.drewN n) (fun _ _ u _ _ => (intOf u).toNat)
  case atStart => exact ⟨_, _, _, _, rfl, rfl, rfl, rfl, hS, 0, rfl⟩
  case round =>
    obtain ⟨R, S, U, V, rfl, rfl, rfl, rfl, hE, hw⟩ := hrel
    have HW : Hid _ := hw
    clear hw
    clear hS
    have r0 := hE.r0
    have r1 := hE.r1
    have u1 := hE.u1
    have u2 := hE.u2
    have s0 := hE.s0
    have s1 := hE.s1
    have v0 := hE.v0
    have v1 := hE.v1
    by_cases hu : 1 < U
    · obtain ⟨hN, hlt⟩ := euc_step hE hu
      have q0 : 0 ≤ R / U := Int.ediv_nonneg r0 (by omega)
      have q1 : R / U ≤ R := Int.ediv_le_self _ r0
      have m0 : 0 ≤ R % U := Int.emod_nonneg _ (by omega)
      have x0 := md_nonneg k (R / U * V)
      have hU0 : (U == 0) = false := beq_eq_false_iff_ne.2 (by omega)
      have hUn : ¬ U = 0 := by omega
      have hrem : R.tmod U = R % U := Int.tmod_eq_emod_of_nonneg r0
      go_wp2_with fail
      go_quiet ((first | (go_at_call 28; exact Calls.quiet_of_same (refMul_any _ _ _ _ (by omega) (by omega))) | (go_at_call 26; exact Calls.quiet_of_same (refSub_any _ _ _ _ (by omega) (by omega)))))
      go_wp2_with fail
      go_roundw
      case rel =>
        obtain ⟨n, rfl⟩ := HW.out
        exact ⟨_, _, _, _, rfl, rfl, rfl, rfl, hN, _, World.drewN_drewN _ _ _⟩
      case measure => simp [intOf]; omega
    · have hv := euc_end h0 hz'.out hE hu
      have HV : Hid (V = md k (a ^ (pr k - 2).toNat)) := hv
      clear hv
      go_wp2_with fail
      go_ret2
      exact ⟨ret_two HV.out rfl, HW.out⟩

/-- Is there a root? -/
theorem Tab.drewN {w : World} (h : Tab w) (n : Nat) : Tab (w.drewN n) := h

theorem shr_exp (k : Int) (l : Nat) (hp1 : 167772161 ≤ pr k) : ((pr k - 1) / 2 ^ l).toNat = (pr k - 1).toNat / 2 ^ l := by
  obtain ⟨x, hx⟩ := Int.eq_ofNat_of_zero_le (show 0 ≤ pr k - 1 by omega)
  rw [hx, show ((x : Int) / 2 ^ l) = ((x / 2 ^ l : Nat) : Int) by rw [Int.natCast_ediv, Int.natCast_pow]; rfl, Int.toNat_natCast, Int.toNat_natCast]
end Go.Proofs.YtlkooihjcdgcjaaDoor
