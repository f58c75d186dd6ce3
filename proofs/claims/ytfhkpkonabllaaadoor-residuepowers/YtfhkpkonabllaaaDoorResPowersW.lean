/- The walk of 'beaglelaw01.ResiduePowers': it answers true; no cell that was there is turned. For the statement's proof. -/
import Derived.OpenShut
import Derived.ProofKit
import Derived.Test.YtfhkpkonabllaaaDoorResAlive
import Derived.Test.YtfhkpkonabllaaaDoorArr
namespace Go.Proofs.YtfhkpkonabllaaaDoor.residuePowers
open Go.ChangeShapes Go.WideShapes Go.ChangeAt Go.RowKit Res
set_option linter.unusedVariables false

theorem tab_alloc {w : World} (h : Tab w) (o : Obj) : Tab (w.alloc o) := by
  have hlt : 0 < w.heap.size := by
    rcases Nat.lt_or_ge 0 w.heap.size with h0 | h0
    · exact h0
    · have := h.1
      simp [World.cell?, h0] at this
  refine ⟨?_, ?_, ?_⟩
  · rw [World.cell?_alloc_lt _ _ _ hlt]; exact h.1
  · rw [World.cell?_alloc_lt _ _ _ hlt]; exact h.2.1
  · rw [World.cell?_alloc_lt _ _ _ hlt]; exact h.2.2
set_option maxHeartbeats 1000000 in
theorem walk (k a m n : Int) (w0 : (Lit.int .i64 k).wf = true) (w1 : (Lit.int .u64 a).wf = true) (w2 : (Lit.int .u64 m).wf = true) (w3 : (Lit.int .u64 n).wf = true) (w : World) (hT : Tab w) :
    Calls Tryd.prog 4 #[.int .i64 k, .int .u64 a, .agg #[.int .u64 m, .int .u64 n]] w fun e w' => e = .returned (.bool true) ∧ Grown w w' := by
  obtain ⟨ha0, ha1⟩ := bounds_u64 w1
  obtain ⟨hm0, hm1⟩ := bounds_u64 w2
  obtain ⟨hn0, hn1⟩ := bounds_u64 w3
  clear w0 w1 w2 w3
  have hT' := tab_alloc hT (.cells #[.int .u64 m, .int .u64 n] 28)
  have hg : Grown w (w.alloc (.cells #[.int .u64 m, .int .u64 n] 28)) := (Grown.refl w).alloc _ _
  have c1 : Hid (Calls _ _ _ _ _) := pow_any k a m _ hT' ha0 hm0 hm1
  have c2 : Hid (Calls _ _ _ _ _) := pow_any k a n _ hT' ha0 hn0 hn1
  have d1 : Hid (Calls _ _ _ _ _) := refPow_any k a m (w.alloc (.cells #[.int .u64 m, .int .u64 n] 28)) ha0 hm0 hm1
  have d2 : Hid (Calls _ _ _ _ _) := refPow_any k a n (w.alloc (.cells #[.int .u64 m, .int .u64 n] 28)) ha0 hn0 hn1
  have al : Hid (Calls _ _ _ _ _) := alive_any _ hT'
  by_cases h1 : 4611686018427387904 < m
  · go_enter Tryd.func4, Tryd.ntmps4
    go_wp2_with fail
    refine Calls.mono (Hid.out c1) ?_; rintro e w' ⟨rfl, hw'⟩; subst w'
    go_wp2_with fail
    refine Calls.mono (Hid.out c2) ?_; rintro e w' ⟨rfl, hw'⟩; subst w'
    go_wp2_with fail
    refine Calls.mono (Hid.out d1) ?_; rintro e w' ⟨rfl, hw'⟩; subst w'
    go_wp2_with fail
    refine Calls.mono (Hid.out d2) ?_; rintro e w' ⟨rfl, hw'⟩; subst w'
    go_wp2_with fail
    refine Calls.mono (Hid.out al) ?_; rintro e w' ⟨rfl, hw'⟩; subst w'
    go_wp2_with fail
    go_ret
    exact ⟨rfl, hg⟩
  by_cases h2 : 4611686018427387904 < n
  · go_enter Tryd.func4, Tryd.ntmps4
    go_wp2_with fail
    refine Calls.mono (Hid.out c1) ?_; rintro e w' ⟨rfl, hw'⟩; subst w'
    go_wp2_with fail
    refine Calls.mono (Hid.out c2) ?_; rintro e w' ⟨rfl, hw'⟩; subst w'
    go_wp2_with fail
    refine Calls.mono (Hid.out d1) ?_; rintro e w' ⟨rfl, hw'⟩; subst w'
    go_wp2_with fail
    refine Calls.mono (Hid.out d2) ?_; rintro e w' ⟨rfl, hw'⟩; subst w'
    go_wp2_with fail
    refine Calls.mono (Hid.out al) ?_; rintro e w' ⟨rfl, hw'⟩; subst w'
    go_wp2_with fail
    go_ret
    exact ⟨rfl, hg⟩
  · have h1' : m ≤ 4611686018427387904 := by omega
    have h2' : n ≤ 4611686018427387904 := by omega
    have c3 : Hid (Calls _ _ _ _ _) := pow_any k a (m + n) _ hT' ha0 (by omega) (by omega)
    have c4 : Hid (Calls _ _ _ _ _) := mul_any k (md k (a ^ m.toNat)) (md k (a ^ n.toNat)) _ hT' (md_nonneg _ _) (md_nonneg _ _)
    rw [md_mul, ← Int.pow_add, show m.toNat + n.toNat = (m + n).toNat by omega] at c4
    go_enter Tryd.func4, Tryd.ntmps4
    go_wp2_with fail
    refine Calls.mono (Hid.out c1) ?_; rintro e w' ⟨rfl, hw'⟩; subst w'
    go_wp2_with fail
    refine Calls.mono (Hid.out c2) ?_; rintro e w' ⟨rfl, hw'⟩; subst w'
    go_wp2_with fail
    refine Calls.mono (Hid.out d1) ?_; rintro e w' ⟨rfl, hw'⟩; subst w'
    go_wp2_with fail
    refine Calls.mono (Hid.out d2) ?_; rintro e w' ⟨rfl, hw'⟩; subst w'
    go_wp2_with fail
    refine Calls.mono (Hid.out al) ?_; rintro e w' ⟨rfl, hw'⟩; subst w'
    go_wp2_with fail
    refine Calls.mono (Hid.out c3) ?_; rintro e w' ⟨rfl, hw'⟩; subst w'
    go_wp2_with fail
    refine Calls.mono (Hid.out c4) ?_; rintro e w' ⟨rfl, hw'⟩; subst w'
    go_wp2_with fail
    go_ret
    exact ⟨rfl, hg⟩

end Go.Proofs.YtfhkpkonabllaaaDoor.residuePowers
