/- Contracts of the calls of residue and of the document's own answers (beagleref01): what each returns, for all numbers, where the table of primes stands in memory as it was laid. -/
import Derived.Test.YtlogdjhnhnfbkaaDoorProg
import Derived.Test.YtlogdjhnhnfbkaaDoorMathA
import Derived.WalkKit
import Derived.WalkSpells
import Derived.WalkLawsBesides
namespace Go.Proofs.YtlogdjhnhnfbkaaDoor
open Go.RowKit Res

/-- The table of primes, as it stands in memory. -/
def Tab (w : World) : Prop := w.cell? ⟨1, 0, none⟩ = some (.int .u64 998244353) ∧ w.cell? ⟨1, 1, none⟩ = some (.int .u64 167772161) ∧ w.cell? ⟨1, 2, none⟩ = some (.int .u64 469762049)

set_option maxHeartbeats 400000 in
theorem prime_any (k : Int) (w : World) (hT : Tab w) : Calls Tryd.prog 100 #[.int .i64 k] w fun e w' => e = .returned (.int .u64 (pr k)) ∧ w' = w := by
  obtain ⟨c0, c1, c2⟩ := hT
  rcases pr_cases k with ⟨rfl, h⟩ | ⟨rfl, h⟩ | ⟨rfl, h⟩ | ⟨hk, h⟩
  · rw [h]; clear h
    go_enter Tryd.func100, Tryd.ntmps100
    go_wp2
    go_ret
    exact ⟨rfl, rfl⟩
  · rw [h]; clear h
    go_enter Tryd.func100, Tryd.ntmps100
    go_wp2
    go_ret
    exact ⟨rfl, rfl⟩
  · rw [h]; clear h
    go_enter Tryd.func100, Tryd.ntmps100
    go_wp2
    go_ret
    exact ⟨rfl, rfl⟩
  · rw [h]; clear h
    rcases hk with hk | hk
    · go_enter Tryd.func100, Tryd.ntmps100
      go_wp2
      go_ret
      exact ⟨rfl, rfl⟩
    · have hk' : ¬ k < 0 := by omega
      go_enter Tryd.func100, Tryd.ntmps100
      go_wp2
      go_ret
      exact ⟨rfl, rfl⟩

set_option maxHeartbeats 400000 in
theorem of_any (k a : Int) (w : World) (hT : Tab w) (h0 : 0 ≤ a) : Calls Tryd.prog 95 #[.int .i64 k, .int .u64 a] w fun e w' => e = .returned (.int .u64 (md k a)) ∧ w' = w := by
  by_cases hp : pr k = 0
  · rw [md_none hp]
    have hb : (pr k == 0) = true := beq_iff_eq.2 hp
    clear hp
    go_enter Tryd.func95, Tryd.ntmps95
    go_wp2_with (go_at_call 100; refine (prime_any _ _ hT).mono ?_; rintro e w' ⟨rfl, rfl⟩)
    go_ret
    exact ⟨rfl, rfl⟩
  · rw [md_some hp]
    have hb : (pr k == 0) = false := beq_eq_false_iff_ne.2 hp
    have hp1 : 1 ≤ pr k := by have := pr_pos hp; omega
    have hp2 : pr k ≤ 998244353 := (pr_bd k).2
    have hm0 : 0 ≤ a % pr k := Int.emod_nonneg _ hp
    have hm1 : a % pr k ≤ 998244353 := by have := Int.emod_lt_of_pos a (show 0 < pr k by omega); omega
    clear hp
    go_enter Tryd.func95, Tryd.ntmps95
    go_wp2_with (go_at_call 100; refine (prime_any _ _ hT).mono ?_; rintro e w' ⟨rfl, rfl⟩)
    go_ret
    exact ⟨rfl, rfl⟩

set_option maxHeartbeats 400000 in
theorem add_any (k a b : Int) (w : World) (hT : Tab w) (h0 : 0 ≤ a) (h1 : 0 ≤ b) : Calls Tryd.prog 106 #[.int .i64 k, .int .u64 a, .int .u64 b] w fun e w' => e = .returned (.int .u64 (md k (a + b))) ∧ w' = w := by
  rw [← md_add]
  have ha0 := md_nonneg k a
  have ha1 := md_le k a
  have hb0 := md_nonneg k b
  have hb1 := md_le k b
  go_enter Tryd.func106, Tryd.ntmps106
  go_wp2_with (go_at_call 95; refine (of_any _ _ _ hT ?h0).mono ?_; (case h0 => omega); rintro e w' ⟨rfl, rfl⟩)
  go_ret
  exact ⟨rfl, rfl⟩

set_option maxHeartbeats 400000 in
theorem mul_any (k a b : Int) (w : World) (hT : Tab w) (h0 : 0 ≤ a) (h1 : 0 ≤ b) : Calls Tryd.prog 89 #[.int .i64 k, .int .u64 a, .int .u64 b] w fun e w' => e = .returned (.int .u64 (md k (a * b))) ∧ w' = w := by
  rw [← md_mul]
  have ha0 := md_nonneg k a
  have ha1 := md_le k a
  have hb0 := md_nonneg k b
  have hb1 := md_le k b
  have hx0 : 0 ≤ md k a * md k b := Int.mul_nonneg ha0 hb0
  have hx1 : md k a * md k b ≤ 998244352 * 998244352 := Int.mul_le_mul ha1 hb1 hb0 (by omega)
  go_enter Tryd.func89, Tryd.ntmps89
  go_wp2_with (go_at_call 95; refine (of_any _ _ _ hT ?h0).mono ?_; (case h0 => omega); rintro e w' ⟨rfl, rfl⟩)
  go_ret
  exact ⟨rfl, rfl⟩

set_option maxHeartbeats 400000 in
theorem sub_any (k a b : Int) (w : World) (hT : Tab w) (h0 : 0 ≤ a) (h1 : 0 ≤ b) : Calls Tryd.prog 107 #[.int .i64 k, .int .u64 a, .int .u64 b] w fun e w' => e = .returned (.int .u64 (md k (a - b))) ∧ w' = w := by
  rw [← md_sub]
  have ha0 := md_nonneg k a
  have ha1 := md_le k a
  have hb0 := md_nonneg k b
  have hb1 := md_le_pr k b
  have hp0 := (pr_bd k).1
  have hp1 := (pr_bd k).2
  go_enter Tryd.func107, Tryd.ntmps107
  go_wp2_with (first | (go_at_call 95; refine (of_any _ _ _ hT ?h0).mono ?_; (case h0 => omega); rintro e w' ⟨rfl, rfl⟩) | (go_at_call 100; refine (prime_any _ _ hT).mono ?_; rintro e w' ⟨rfl, rfl⟩))
  go_ret
  exact ⟨rfl, rfl⟩
end Go.Proofs.YtlogdjhnhnfbkaaDoor
