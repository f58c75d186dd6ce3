/- The walk of 'beaglelaw01.ResidueOrders': it answers true; no cell that was there is turned. For the statement's proof. -/
import Derived.OpenShut
import Derived.ProofKit
import Derived.Test.YtfhkpkonabllaaaDoorResAlive
import Derived.Test.YtfhkpkonabllaaaDoorArr
namespace Go.Proofs.YtfhkpkonabllaaaDoor.residueOrders
open Go.ChangeShapes Go.WideShapes Go.ChangeAt Go.RowKit Res
set_option linter.unusedVariables false

theorem tab_alloc {w : World} (h : Tab w) (o : Obj) : Tab (w.alloc o) := by
  have hlt : 0 < w.heap.size := by
    rcases Nat.lt_or_ge 0 w.heap.size with h0 | h0
    · exact h0
    · have := h.1
      simp [World.cell?, h0] at this
  refine ⟨?_, ?_, ?_⟩
  · rw [World.cell?_alloc_lt _ _ _ hlt]; exact h.1
  · rw [World.cell?_alloc_lt _ _ _ hlt]; exact h.2.1
  · rw [World.cell?_alloc_lt _ _ _ hlt]; exact h.2.2
theorem grown_drewN {w v : World} (h : Grown w v) (n : Nat) : Grown w (v.drewN n) := by
  induction n with
  | zero => exact h
  | succ n ih => exact Grown.drew ih
set_option maxHeartbeats 400000 in
theorem cl_add (k x y : Int) (b : Nat) (w : World) (hT : Tab w) (hc : w.cell? ⟨b, 0, none⟩ = some (.int .i64 k)) (h0 : 0 ≤ x) (h1 : 0 ≤ y) :
    Calls Tryd.prog 26 #[.int .u64 x, .int .u64 y, .pointer (some ⟨b, 0, none⟩)] w fun e w' => e = .returned (.int .u64 (md k (x + y))) ∧ w' = w := by
  go_enter Tryd.func26, Tryd.ntmps26
  go_wp2_with (first | (go_at_call 9; refine (add_any _ _ _ _ hT ?h0 ?h1).mono ?_; (case h0 => omega); (case h1 => omega); rintro e w' ⟨rfl, hw'⟩; subst w'))
  go_ret
  exact ⟨rfl, rfl⟩
set_option maxHeartbeats 400000 in
theorem cl_mul (k x y : Int) (b : Nat) (w : World) (hT : Tab w) (hc : w.cell? ⟨b, 0, none⟩ = some (.int .i64 k)) (h0 : 0 ≤ x) (h1 : 0 ≤ y) :
    Calls Tryd.prog 27 #[.int .u64 x, .int .u64 y, .pointer (some ⟨b, 0, none⟩)] w fun e w' => e = .returned (.int .u64 (md k (x * y))) ∧ w' = w := by
  go_enter Tryd.func27, Tryd.ntmps27
  go_wp2_with (first | (go_at_call 11; refine (mul_any _ _ _ _ hT ?h0 ?h1).mono ?_; (case h0 => omega); (case h1 => omega); rintro e w' ⟨rfl, hw'⟩; subst w'))
  go_ret
  exact ⟨rfl, rfl⟩
set_option maxHeartbeats 2000000 in
theorem walk (k a b c : Int) (w0 : (Lit.int .i64 k).wf = true) (w1 : (Lit.int .u64 a).wf = true) (w2 : (Lit.int .u64 b).wf = true) (w3 : (Lit.int .u64 c).wf = true) (w : World) (hT : Tab w) :
    Calls Tryd.prog 7 #[.int .i64 k, .agg #[.int .u64 a, .int .u64 b, .int .u64 c]] w fun e w' => e = .returned (.bool true) ∧ Grown w w' := by
  obtain ⟨ha0, ha1⟩ := bounds_u64 w1
  obtain ⟨hb0, hb1⟩ := bounds_u64 w2
  obtain ⟨hc0, hc1⟩ := bounds_u64 w3
  clear w0 w1 w2 w3
  have hT' := tab_alloc (tab_alloc hT (.cells #[.int .i64 k] 3)) (.cells #[.int .u64 a, .int .u64 b, .int .u64 c] 35)
  have hg : Grown w ((w.alloc (.cells #[.int .i64 k] 3)).alloc (.cells #[.int .u64 a, .int .u64 b, .int .u64 c] 35)) := ((Grown.refl w).alloc _ _).alloc _ _
  have hk : ((w.alloc (.cells #[.int .i64 k] 3)).alloc (.cells #[.int .u64 a, .int .u64 b, .int .u64 c] 35)).cell? ⟨w.heap.size, 0, none⟩ = some (.int .i64 k) := by simp
  have h1 : (md k (a + b) == md k (b + a)) = true := beq_iff_eq.2 (by rw [Int.add_comm])
  have h2 : (md k (a * b) == md k (b * a)) = true := beq_iff_eq.2 (by rw [Int.mul_comm])
  have h3 : (md k (md k (a + b) + c) == md k (a + md k (b + c))) = true := beq_iff_eq.2 (by rw [md_add_l, md_add_r, Int.add_assoc])
  have h4 : (md k (md k (a * b) * c) == md k (a * md k (b * c))) = true := beq_iff_eq.2 (by rw [md_mul_l, md_mul_r, Int.mul_assoc])
  have h5 : (md k (a * md k (b + c)) == md k (md k (a * b) + md k (a * c))) = true := beq_iff_eq.2 (by rw [md_mul_r, md_add, Int.mul_add])
  have h6 : (md k (md k (a + b) - b) == md k a) = true := beq_iff_eq.2 (by rw [md_sub_l, Int.add_sub_cancel])
  have n1 := md_nonneg k (a + b)
  have n2 := md_nonneg k (a * b)
  have n3 := md_nonneg k (b + c)
  have n4 := md_nonneg k (b * c)
  have n5 := md_nonneg k (a * c)
  go_enter Tryd.func7, Tryd.ntmps7
  go_wp2_with fail
  go_quiet (fail)
  go_wp2_with fail
  have hT2 : Tab (((w.alloc (.cells #[.int .i64 k] 3)).alloc (.cells #[.int .u64 a, .int .u64 b, .int .u64 c] 35)).drewN nq) := hT'
  have hg2 := grown_drewN hg nq
  have hk2 : (((w.alloc (.cells #[.int .i64 k] 3)).alloc (.cells #[.int .u64 a, .int .u64 b, .int .u64 c] 35)).drewN nq).cell? ⟨w.heap.size, 0, none⟩ = some (.int .i64 k) := hk
  generalize ((w.alloc (.cells #[.int .i64 k] 3)).alloc (.cells #[.int .u64 a, .int .u64 b, .int .u64 c] 35)).drewN nq = v at *
  clear hT' hg hk hT
  have HG : Hid (Grown w v) := hg2
  clear hg2
  generalize w.heap.size = z at *
  go_quiet ((first | (go_at_call 19; exact Calls.quiet_of_same (alive_any _ hT2)) | (go_at_call 26; exact Calls.quiet_of_same (cl_add k _ _ _ _ hT2 hk2 (by omega) (by omega))) | (go_at_call 27; exact Calls.quiet_of_same (cl_mul k _ _ _ _ hT2 hk2 (by omega) (by omega))) | (go_at_call 10; exact Calls.quiet_of_same (sub_any _ _ _ _ hT2 (by omega) (by omega))) | (go_at_call 14; exact Calls.quiet_of_same (of_any _ _ _ hT2 (by omega)))))
  go_wp2_with fail
  go_ret
  exact ⟨rfl, grown_drewN HG.out _⟩

end Go.Proofs.YtfhkpkonabllaaaDoor.residueOrders
