/- Contracts of the inverses and roots of residue and of the document's own answers. -/
import Derived.Test.YtlogdjhnhnfbkaaDoorResPow
import Derived.Deep.QuietTactic
import Derived.BigQuiet
namespace Go.Proofs.YtlogdjhnhnfbkaaDoor
open Go.RowKit Res
theorem ret_two {a b : Int} {x y : Bool} (h : a = b) (h2 : x = y) : Ending.returned (.tuple #[.int .u64 a, .bool x]) = .returned (.tuple #[.int .u64 b, .bool y]) := by rw [h, h2]

set_option maxHeartbeats 400000 in
theorem inv_no (k a : Int) (w : World) (hT : Tab w) (h0 : 0 ≤ a) (hz : md k a = 0) : Calls Tryd.prog 96 #[.int .i64 k, .int .u64 a] w fun e w' => e = .returned (.tuple #[.int .u64 0, .bool false]) ∧ w' = w := by
  have hb : (md k a == 0) = true := beq_iff_eq.2 hz
  clear hz
  go_enter Tryd.func96, Tryd.ntmps96
  go_wp2_with (go_at_call 95; refine (of_any _ _ _ hT ?h0).mono ?_; (case h0 => omega); rintro e w' ⟨rfl, rfl⟩)
  go_ret2
  exact ⟨rfl, rfl⟩

set_option maxHeartbeats 400000 in
theorem inv_yes (k a : Int) (w : World) (hT : Tab w) (h0 : 0 ≤ a) (hz : md k a ≠ 0) : Calls Tryd.prog 96 #[.int .i64 k, .int .u64 a] w fun e w' => e = .returned (.tuple #[.int .u64 (md k (a ^ (pr k - 2).toNat)), .bool true]) ∧ w' = w := by
  have hb : (md k a == 0) = false := beq_eq_false_iff_ne.2 hz
  have hp1 : 167772161 ≤ pr k := pr_pos (fun e => hz (md_none e a))
  have hp2 : pr k ≤ 998244353 := (pr_bd k).2
  clear hz
  go_enter Tryd.func96, Tryd.ntmps96
  go_wp2_with (first | (go_at_call 95; refine (of_any _ _ _ hT ?h0).mono ?_; (case h0 => omega); rintro e w' ⟨rfl, rfl⟩) | (go_at_call 100; refine (prime_any _ _ hT).mono ?_; rintro e w' ⟨rfl, rfl⟩) | (go_at_call 104; refine (pow_any _ _ _ _ hT ?h0 ?h1 ?h2).mono ?_; (case h0 => omega); (case h1 => omega); (case h2 => omega); rintro e w' ⟨rfl, rfl⟩))
  go_ret2
  exact ⟨rfl, rfl⟩

/-- Is there a root? -/
theorem Tab.drewN {w : World} (h : Tab w) (n : Nat) : Tab (w.drewN n) := h

set_option maxHeartbeats 400000 in
theorem root_no (k log : Int) (w : World) (hT : Tab w) (h : pr k = 0 ∨ log < 0 ∨ 12 < log) : Calls Tryd.prog 101 #[.int .i64 k, .int .i64 log] w fun e w' => e = .returned (.tuple #[.int .u64 0, .bool false]) ∧ w' = w := by
  by_cases hp : pr k = 0
  · have hb : (pr k == 0) = true := beq_iff_eq.2 hp
    clear hp h
    go_enter Tryd.func101, Tryd.ntmps101
    go_wp2_with (go_at_call 100; refine (prime_any _ _ hT).mono ?_; rintro e w' ⟨rfl, rfl⟩)
    go_ret2
    exact ⟨rfl, rfl⟩
  · have hb : (pr k == 0) = false := beq_eq_false_iff_ne.2 hp
    by_cases hl : log < 0
    · clear hp h
      go_enter Tryd.func101, Tryd.ntmps101
      go_wp2_with (go_at_call 100; refine (prime_any _ _ hT).mono ?_; rintro e w' ⟨rfl, rfl⟩)
      go_ret2
      exact ⟨rfl, rfl⟩
    · have hl2 : 12 < log := by omega
      clear hp h
      go_enter Tryd.func101, Tryd.ntmps101
      go_wp2_with (go_at_call 100; refine (prime_any _ _ hT).mono ?_; rintro e w' ⟨rfl, rfl⟩)
      go_ret2
      exact ⟨rfl, rfl⟩

theorem shr_exp (k : Int) (l : Nat) (hp1 : 167772161 ≤ pr k) : ((pr k - 1) / 2 ^ l).toNat = (pr k - 1).toNat / 2 ^ l := by
  obtain ⟨x, hx⟩ := Int.eq_ofNat_of_zero_le (show 0 ≤ pr k - 1 by omega)
  rw [hx, show ((x : Int) / 2 ^ l) = ((x / 2 ^ l : Nat) : Int) by rw [Int.natCast_ediv, Int.natCast_pow]; rfl, Int.toNat_natCast, Int.toNat_natCast]

set_option maxHeartbeats 400000 in
theorem root_yes (k log : Int) (w : World) (hT : Tab w) (hp : pr k ≠ 0) (hl0 : 0 ≤ log) (hl1 : log ≤ 12) : Calls Tryd.prog 101 #[.int .i64 k, .int .i64 log] w fun e w' => e = .returned (.tuple #[.int .u64 (md k (3 ^ ((pr k - 1).toNat / 2 ^ log.toNat))), .bool true]) ∧ w' = w := by
  have hb : (pr k == 0) = false := beq_eq_false_iff_ne.2 hp
  have hp1 : 167772161 ≤ pr k := pr_pos hp
  have hp2 : pr k ≤ 998244353 := (pr_bd k).2
  have hx : Hid _ := shr_exp k log.toNat hp1
  have hy0 : 0 ≤ (pr k - 1) / 2 ^ log.toNat := Int.ediv_nonneg (by omega) (Int.pow_nonneg (by omega))
  have hy1 : (pr k - 1) / 2 ^ log.toNat ≤ pr k - 1 := Int.ediv_le_self _ (by omega)
  clear hp
  go_enter Tryd.func101, Tryd.ntmps101
  go_wp2_with (go_at_call 100; refine (prime_any _ _ hT).mono ?_; rintro e w' ⟨rfl, rfl⟩)
  refine (pow_any _ _ _ _ hT (by omega) hy0 (by omega)).mono ?_
  rintro e w' ⟨rfl, rfl⟩
  go_wp2_with fail
  go_ret2
  exact ⟨ret_two (by rw [hx.out]) rfl, rfl⟩
end Go.Proofs.YtlogdjhnhnfbkaaDoor
