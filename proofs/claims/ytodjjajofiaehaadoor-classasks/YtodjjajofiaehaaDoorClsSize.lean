/- Contracts of math/bits.OnesCount64, class.Size. -/
import Derived.Test.YtodjjajofiaehaaDoorClsPop
import Derived.Test.YtodjjajofiaehaaDoorClsOps
namespace Go.Proofs.YtodjjajofiaehaaDoor
open Go.RowKit
namespace Cls

theorem and_nat (a m c : Nat) (M : Int) (hM : M = (m : Int)) (ha : a < 18446744073709551616) (hm : m < 18446744073709551616) (h : a &&& m = c) : bits .and .u64 (a : Int) M = (c : Int) := by rw [hM, bits_and_u64_nat _ _ ha hm, h]

set_option maxHeartbeats 1000000 in
theorem ones_core (x0 a1 b1 x1 a2 b2 x2 q3 x3 q4 x4 q5 x5 q6 x6 c : Nat) (w : World)
    (r1 : bits .and .u64 ((x0 : Int) / 2) 6148914691236517205 = (a1 : Int)) (r2 : bits .and .u64 (x0 : Int) 6148914691236517205 = (b1 : Int)) (r3 : (a1 : Int) + (b1 : Int) = (x1 : Int)) (k1 : (x1 : Int) < 18446744073709551616)
    (r4 : bits .and .u64 ((x1 : Int) / 4) 3689348814741910323 = (a2 : Int)) (r5 : bits .and .u64 (x1 : Int) 3689348814741910323 = (b2 : Int)) (r6 : (a2 : Int) + (b2 : Int) = (x2 : Int)) (k2 : (x2 : Int) < 18446744073709551616)
    (r7 : (x2 : Int) / 16 + (x2 : Int) = (q3 : Int)) (k3 : (q3 : Int) < 18446744073709551616) (r8 : bits .and .u64 (q3 : Int) 1085102592571150095 = (x3 : Int))
    (r9 : (x3 : Int) / 256 = (q4 : Int)) (r10 : (x3 : Int) + (q4 : Int) = (x4 : Int)) (k4 : (x4 : Int) < 18446744073709551616)
    (r11 : (x4 : Int) / 65536 = (q5 : Int)) (r12 : (x4 : Int) + (q5 : Int) = (x5 : Int)) (k5 : (x5 : Int) < 18446744073709551616)
    (r13 : (x5 : Int) / 4294967296 = (q6 : Int)) (r14 : (x5 : Int) + (q6 : Int) = (x6 : Int)) (k6 : (x6 : Int) < 9223372036854775808)
    (r15 : bits .and .i64 (x6 : Int) 127 = (c : Int)) :
    Calls Tryd.prog 32 #[.int .u64 x0] w fun e w' => e = .returned (.int .i64 c) ∧ w' = w := by
  go_enter Tryd.func32, Tryd.ntmps32
  go_wp2_with fail
  go_ret
  exact ⟨rfl, rfl⟩

theorem and127 (x : Nat) (hx : x < 9223372036854775808) : bits .and .i64 (x : Int) 127 = ((x % 128 : Nat) : Int) := by
  have h1 : (BitVec.ofInt 64 (x : Int)).toNat = x := by
    rw [BitVec.ofInt_natCast, BitVec.toNat_ofNat]; exact Nat.mod_eq_of_lt (by omega)
  have h2 : (BitVec.ofInt 64 (127 : Int)).toNat = 127 := by decide +kernel
  show IntKind.i64.wrap ((BitVec.ofInt 64 (x : Int) &&& BitVec.ofInt 64 (127 : Int)).toNat : Int) = _
  have e : x &&& 127 = x % 128 := Nat.and_two_pow_sub_one_eq_mod x 7
  rw [BitVec.toNat_and, h1, h2, e]
  simp [IntKind.wrap, IntKind.signed, IntKind.bits]
  omega

theorem ones_any (f : Nat → Bool) (k : Nat) (w : World) :
    Calls Tryd.prog 32 #[.int .u64 ((wd f k : Nat) : Int)] w fun e w' => e = .returned (.int .i64 ((cb f (64 * k) 64 : Nat) : Int)) ∧ w' = w := by
  obtain ⟨x1, x2, x3, h1, l1, h2, l2, h3, p0, p1, p2, p3, p4, p5, p6, p7, hx, b0, b1, b2, b3, b4, b5, b6, b7, hs⟩ := pop3 f k
  obtain ⟨x4, x5, x6, h4, l4, h5, l5, h6, l6, hm⟩ := pop_end p0 p1 p2 p3 p4 p5 p6 p7 x3 hx b0 b1 b2 b3 b4 b5 b6 b7
  have l0 := wd_lt f k
  have l3 : x3 < 18446744073709551616 := by omega
  rw [hs] at hm
  clear hx hs b0 b1 b2 b3 b4 b5 b6 b7
  generalize wd f k = x0 at *
  have d2 : ((x0 : Int) / 2) = ((x0 / 2 : Nat) : Int) := by omega
  have d4 : ((x1 : Int) / 4) = ((x1 / 4 : Nat) : Int) := by omega
  refine ones_core x0 (x0 / 2 &&& 6148914691236517205) (x0 &&& 6148914691236517205) x1 (x1 / 4 &&& 3689348814741910323) (x1 &&& 3689348814741910323) x2 (x2 / 16 + x2) x3 (x3 / 256) x4 (x4 / 65536) x5 (x5 / 4294967296) x6 _ w ?_ ?_ ?_ ?_ ?_ ?_ ?_ ?_ ?_ ?_ ?_ ?_ ?_ ?_ ?_ ?_ ?_ ?_ ?_ ?_ ?_
  · rw [d2]; exact and_nat _ 6148914691236517205 _ _ rfl (by clear h1 h2 h3 h4 h5 h6 hm; omega) (by decide) rfl
  · exact and_nat _ 6148914691236517205 _ _ rfl l0 (by decide) rfl
  · clear h2 h3 h4 h5 h6 hm; omega
  · clear h1 h2 h3 h4 h5 h6 hm; omega
  · rw [d4]; exact and_nat _ 3689348814741910323 _ _ rfl (by clear h1 h2 h3 h4 h5 h6 hm; omega) (by decide) rfl
  · exact and_nat _ 3689348814741910323 _ _ rfl l1 (by decide) rfl
  · omega
  · omega
  · omega
  · omega
  · exact and_nat _ 1085102592571150095 _ _ rfl l2 (by decide) h3
  · omega
  · omega
  · omega
  · omega
  · omega
  · omega
  · omega
  · omega
  · omega
  · rw [and127 x6 l6, hm]

theorem idx4c (x0 x1 x2 x3 : Int) (w : World) : (Instr.index 26 (.agg #[.int .u64 x0, .int .u64 x1, .int .u64 x2, .int .u64 x3]) (.int .i64 0)).run Tryd.prog w = .ok (.int .u64 x0) w ∧ (Instr.index 26 (.agg #[.int .u64 x0, .int .u64 x1, .int .u64 x2, .int .u64 x3]) (.int .i64 1)).run Tryd.prog w = .ok (.int .u64 x1) w ∧ (Instr.index 26 (.agg #[.int .u64 x0, .int .u64 x1, .int .u64 x2, .int .u64 x3]) (.int .i64 2)).run Tryd.prog w = .ok (.int .u64 x2) w ∧ (Instr.index 26 (.agg #[.int .u64 x0, .int .u64 x1, .int .u64 x2, .int .u64 x3]) (.int .i64 3)).run Tryd.prog w = .ok (.int .u64 x3) w :=
  ⟨by kernel_rfl, by kernel_rfl, by kernel_rfl, by kernel_rfl⟩
/-- A class's word, of the value. -/
theorem idx4 (W : Nat → Nat) (k : Nat) (hk : k < 4) (w : World) : (Instr.index 26 (.agg #[.int .u64 ((W 0 : Nat) : Int), .int .u64 ((W 1 : Nat) : Int), .int .u64 ((W 2 : Nat) : Int), .int .u64 ((W 3 : Nat) : Int)]) (.int .i64 (k : Int))).run Tryd.prog w = .ok (.int .u64 ((W k : Nat) : Int)) w := by
  have h := idx4c (W 0) (W 1) (W 2) (W 3) w
  match k, hk with
  | 0, _ => exact h.1
  | 1, _ => exact h.2.1
  | 2, _ => exact h.2.2.1
  | 3, _ => exact h.2.2.2

set_option maxHeartbeats 1000000 in
theorem size_core (W M N : Nat → Nat) (hc : ∀ k w, Calls Tryd.prog 32 #[.int .u64 ((W k : Nat) : Int)] w fun e w' => e = .returned (.int .i64 ((M k : Nat) : Int)) ∧ w' = w) (hM : ∀ k, M k ≤ 64) (h0 : N 0 = 0) (hN : ∀ k, N (k + 1) = N k + M k) (w : World) :
    Calls Tryd.prog 24 #[.agg #[.int .u64 ((W 0 : Nat) : Int), .int .u64 ((W 1 : Nat) : Int), .int .u64 ((W 2 : Nat) : Int), .int .u64 ((W 3 : Nat) : Int)]] w fun e w' => e = .returned (.int .i64 ((N 4 : Nat) : Int)) ∧ Below w.heap.size w w' := by
  obtain ⟨w1, e1, b1, _, _⟩ := boxW w W
  have E1 : Hid _ := e1
  have B1 : Hid (Below w.heap.size w w1) := b1
  have HC : Hid _ := hc
  have HM : Hid _ := hM
  have H0 : Hid _ := h0
  have HN : Hid _ := hN
  have Hle : Hid (∀ k, k ≤ 4 → N k ≤ 64 * k) := fun k _ => by
    induction k with
    | zero => rw [h0]; omega
    | succ k ih => have := hM k; have := ih (by omega); rw [hN]; omega
  clear e1 b1 hc hM h0 hN
  go_enter Tryd.func24, Tryd.ntmps24
  go_wp2_with fail
  rw [← E1.out]
  clear E1
  go_loopw [3, 7] (fun vn vk wr => wr = w1 ∧ ∃ k : Nat, k ≤ 4 ∧ vk = .int .i64 k ∧ vn = .int .i64 ((N k : Nat) : Int)) (fun _ vk _ => 4 - (intOf vk).toNat)
  case atStart => exact ⟨rfl, 0, Nat.zero_le _, rfl, by rw [H0.out]; rfl⟩
  case round =>
    obtain ⟨rfl, k, hk, rfl, rfl⟩ := hrel
    by_cases hk4 : k < 4
    · have c1 : Hid _ := HC.out k wr
      have h1 := HM.out k
      have h2 := Hle.out k hk
      have hs' : Hid _ := HN.out k
      have h1' : (N k : Int) ≤ 256 := by omega
      have h2' : (M k : Int) ≤ 64 := by omega
      have hidx := idx4 W k hk4
      clear h1 h2
      go_wp2_with fail
      refine Calls.mono (Hid.out c1) ?_; rintro e w' ⟨rfl, hw'⟩; subst w'
      go_wp2_with fail
      go_roundw
      case rel => exact ⟨trivial, k + 1, by omega, by go_num, by rw [hs'.out]; go_num⟩
      case measure => simp [intOf]; omega
    · obtain rfl : k = 4 := by omega
      go_wp2_with fail
      go_ret
      exact ⟨rfl, B1.out⟩
theorem size_any (f : Nat → Bool) (w : World) :
    Calls Tryd.prog 24 #[.agg #[.int .u64 ((wd (f) 0 : Nat) : Int), .int .u64 ((wd (f) 1 : Nat) : Int), .int .u64 ((wd (f) 2 : Nat) : Int), .int .u64 ((wd (f) 3 : Nat) : Int)]] w fun e w' => e = .returned (.int .i64 ((cb f 0 256 : Nat) : Int)) ∧ Below w.heap.size w w' :=
  size_core (wd f) (fun k => cb f (64 * k) 64) (fun k => cb f 0 (64 * k)) (fun k w => ones_any f k w) (fun k => cb_le f _ _) (by simp [cb]) (fun k => by rw [show 64 * (k + 1) = 64 * k + 64 by omega, cb_add, Nat.zero_add]) w
end Cls
end Go.Proofs.YtodjjajofiaehaaDoor
