/- Contracts of the powers of residue and of the document's own answer. -/
import Derived.Test.YtlogdjhnhnfbkaaDoorResWalks
import Derived.ScopeJumps
namespace Go.Proofs.YtlogdjhnhnfbkaaDoor
open Go.RowKit Res
def intAt : Value → Int | .int _ q => q | _ => 0
theorem ret_u64 {a b : Int} (h : a = b) : Ending.returned (.int .u64 a) = .returned (.int .u64 b) := by rw [h]

/-- What holds at the label: nothing is left to say but the exponent's powers. -/
structure PowAt (k a n p s m : Int) : Prop where
  m0 : 0 ≤ m
  m1 : m ≤ 18446744073709551615
  p0 : 0 ≤ p
  s0 : 0 ≤ s
  pp : md k p = p
  eq : md k (p * s ^ m.toNat) = md k (a ^ n.toNat)
theorem PowAt.fin {k a n p s : Int} (h : PowAt k a n p s 0) : p = md k (a ^ n.toNat) := by
  have := h.eq
  simp only [Int.toNat_zero, Int.pow_zero, Int.mul_one, h.pp] at this
  exact this
theorem PowAt.odd {k a n p s m : Int} (h : PowAt k a n p s m) (ho : m % 2 = 1) : PowAt k a n (md k (p * s)) (md k (s * s)) (m / 2) := by
  have h0 := h.m0
  have h1 := h.m1
  refine ⟨by omega, by omega, md_nonneg _ _, md_nonneg _ _, md_md _ _, ?_⟩
  rw [show (m / 2).toNat = m.toNat / 2 by omega, step_odd k p s m.toNat (by omega)]
  exact h.eq
theorem PowAt.even {k a n p s m : Int} (h : PowAt k a n p s m) (ho : m % 2 ≠ 1) : PowAt k a n p (md k (s * s)) (m / 2) := by
  have h0 := h.m0
  have h1 := h.m1
  refine ⟨by omega, by omega, h.p0, md_nonneg _ _, h.pp, ?_⟩
  rw [show (m / 2).toNat = m.toNat / 2 by omega, step_even k p s m.toNat (by omega)]
  exact h.eq
theorem PowAt.start (k a n : Int) (hn0 : 0 ≤ n) (hn1 : n ≤ 18446744073709551615) : PowAt k a n (md k 1) (md k a) n :=
  ⟨hn0, hn1, md_nonneg _ _, md_nonneg _ _, md_md _ _, by rw [md_mul_l, Int.one_mul, md_pow]⟩

set_option maxHeartbeats 1000000 in
theorem pow_any (k a n : Int) (w : World) (hT : Tab w) (h0 : 0 ≤ a) (hn0 : 0 ≤ n) (hn1 : n ≤ 18446744073709551615) : Calls Tryd.prog 104 #[.int .i64 k, .int .u64 a, .int .u64 n] w fun e w' => e = .returned (.int .u64 (md k (a ^ n.toNat))) ∧ w' = w := by
  go_enter Tryd.func104, Tryd.ntmps104
  go_wp2_with fail
  refine wp_scope_jumps 0 (fun a' w' => w' = w ∧ ∃ (p s m : Int) (u9 u10 u11 u12 u13 u14 u15 u16 u17 u18 u19 u20 u21 u22 u23 u24 u25 u26 u27 u28 u29 : Value), a' = { tmps := #[.int .i64 k, .int .u64 a, .int .u64 m, undef, undef, undef, .int .u64 0, .int .u64 p, .int .u64 s, u9, u10, u11, u12, u13, u14, u15, u16, u17, u18, u19, u20, u21, u22, u23, u24, u25, u26, u27, u28, u29], defers := [] } ∧ PowAt k a n p s m) (fun a' _ => (intAt (a'.tmps.getD 2 undef)).toNat) rfl ?_ ?_
  · have hs := PowAt.start k a n hn0 hn1
    have hp0 := hs.p0
    have hs0 := hs.s0
    have hand := and_one_u64 n hn0 hn1
    by_cases hz : n = 0
    · subst hz
      clear hand
      go_wp2_with (go_at_call 95; refine (of_any _ _ _ hT ?h0).mono ?_; (case h0 => omega); rintro e w' ⟨rfl, rfl⟩)
      go_step3
      go_wp2_with fail
      simp only [Exit.jump]
      go_ret
      exact ⟨ret_u64 hs.fin, rfl⟩
    · have hb : (n == 0) = false := beq_eq_false_iff_ne.2 hz
      clear hz
      by_cases ho : n % 2 = 1
      · have hN := hs.odd ho
        have hob : (n % 2 == 1) = true := beq_iff_eq.2 ho
        clear ho
        go_wp2_with (go_at_call 95; refine (of_any _ _ _ hT ?h0).mono ?_; (case h0 => omega); rintro e w' ⟨rfl, rfl⟩)
        go_step3
        go_wp2_with (go_at_call 89; refine (mul_any _ _ _ _ hT ?h0 ?h1).mono ?_; (case h0 => omega); (case h1 => omega); rintro e w' ⟨rfl, rfl⟩)
        go_step3
        exact ⟨rfl, rfl, _, _, _, _, _, _, _, _, _, _, _, _, _, _, _, _, _, _, _, _, _, _, _, _, rfl, hN⟩
      · have hN := hs.even ho
        have hob : (n % 2 == 1) = false := beq_eq_false_iff_ne.2 ho
        clear ho
        go_wp2_with (go_at_call 95; refine (of_any _ _ _ hT ?h0).mono ?_; (case h0 => omega); rintro e w' ⟨rfl, rfl⟩)
        go_step3
        go_wp2_with (go_at_call 89; refine (mul_any _ _ _ _ hT ?h0 ?h1).mono ?_; (case h0 => omega); (case h1 => omega); rintro e w' ⟨rfl, rfl⟩)
        go_step3
        exact ⟨rfl, rfl, _, _, _, _, _, _, _, _, _, _, _, _, _, _, _, _, _, _, _, _, _, _, _, _, rfl, hN⟩
  · rintro a' w' ⟨rfl, p, s, m, u9, u10, u11, u12, u13, u14, u15, u16, u17, u18, u19, u20, u21, u22, u23, u24, u25, u26, u27, u28, u29, rfl, hs⟩
    have hp0 := hs.p0
    have hs0 := hs.s0
    have hm0 := hs.m0
    have hm1 := hs.m1
    have hand := and_one_u64 m hm0 hm1
    by_cases hz : m = 0
    · subst hz
      clear hand
      go_wp2_with fail
      simp only [Exit.jump]
      go_ret
      exact ⟨ret_u64 hs.fin, rfl⟩
    · have hb : (m == 0) = false := beq_eq_false_iff_ne.2 hz
      have hlt : (m / 2).toNat < m.toNat := by omega
      clear hz
      by_cases ho : m % 2 = 1
      · have hN := hs.odd ho
        have hob : (m % 2 == 1) = true := beq_iff_eq.2 ho
        clear ho
        go_wp2_with (go_at_call 89; refine (mul_any _ _ _ _ hT ?h0 ?h1).mono ?_; (case h0 => omega); (case h1 => omega); rintro e w' ⟨rfl, rfl⟩)
        go_step3
        exact ⟨rfl, ⟨rfl, _, _, _, _, _, _, _, _, _, _, _, _, _, _, _, _, _, _, _, _, _, _, _, _, rfl, hN⟩, hlt⟩
      · have hN := hs.even ho
        have hob : (m % 2 == 1) = false := beq_eq_false_iff_ne.2 ho
        clear ho
        go_wp2_with (go_at_call 89; refine (mul_any _ _ _ _ hT ?h0 ?h1).mono ?_; (case h0 => omega); (case h1 => omega); rintro e w' ⟨rfl, rfl⟩)
        go_step3
        exact ⟨rfl, ⟨rfl, _, _, _, _, _, _, _, _, _, _, _, _, _, _, _, _, _, _, _, _, _, _, _, _, rfl, hN⟩, hlt⟩
end Go.Proofs.YtlogdjhnhnfbkaaDoor
