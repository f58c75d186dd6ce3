/- Contracts of block.Fit and of the document's own Fit, of any numbers. -/
import Derived.Test.YtdffofpoilfhiaaDoorBlkCnt
namespace Go.Proofs.YtdffofpoilfhiaaDoor
open Go.RowKit Res

/-- The cost of a size, by letters. -/
theorem cost_parts (m n : Int) (k : Nat) (hk : k ≤ 12) : ∃ p q c, (2 : Int) ^ k = p ∧ ct m n p * p = q ∧ q * ((k : Int) + 1) = c ∧ cost m n k = c ∧ 1 ≤ p ∧ p ≤ 4096 ∧ 0 ≤ ct m n p ∧ ct m n p ≤ 6597069766659 ∧ 0 ≤ q ∧ q ≤ 27021597764235264 ∧ 0 ≤ c ∧ c ≤ 351280770935058432 := by
  refine ⟨_, _, _, rfl, rfl, rfl, rfl, (pow_bd k hk).1, (pow_bd k hk).2, ?_, ?_, ?_, ?_, ?_, ?_⟩
  · have := ct_ge m n (2 ^ k); omega
  · have := ct_ge m n (2 ^ k); omega
  · rcases cost_bd m n k hk with ⟨h, _⟩ | ⟨_, _, h2, h3, _⟩
    · rw [h]; omega
    · omega
  · rcases cost_bd m n k hk with ⟨h, _⟩ | ⟨_, _, h2, h3, _⟩
    · rw [h]; omega
    · omega
  · rcases cost_bd m n k hk with ⟨_, h⟩ | ⟨_, h1, _, _, h2⟩
    · unfold cost at h; omega
    · unfold cost at h1; omega
  · rcases cost_bd m n k hk with ⟨_, h⟩ | ⟨_, h1, _, _, h2⟩
    · unfold cost at h; omega
    · unfold cost at h2; omega

set_option maxHeartbeats 1000000 in
theorem fit_any (m n : Int) (w : World) : Calls Tryd.prog 16 #[.int .i64 m, .int .i64 n] w fun e w' => e = .returned (.int .i64 (fb m n 13).1) ∧ w' = w := by
  have c1 : Hid _ := fun s => count_any m n s w
  go_enter Tryd.func16, Tryd.ntmps16
  go_wp2_with fail
  go_loop [5, 6, 10] (fun vb vl vi => ∃ k : Nat, k ≤ 13 ∧ vi = .int .i64 k ∧ vb = .int .i64 (fb m n k).1 ∧ vl = .int .i64 (fb m n k).2) (fun _ _ vi => 13 - (intOf vi).toNat)
  case atStart => exact ⟨0, Nat.zero_le _, rfl, rfl, rfl⟩
  case round =>
    obtain ⟨k, hk, rfl, rfl, rfl⟩ := hrel
    by_cases hlt : k < 13
    · obtain ⟨p, q, c, hp, hq, hc, hco, p0, p1, t0, t1, q0, q1, c0, c1'⟩ := cost_parts m n k (by omega)
      have cc : Hid _ := c1.out p
      have hU : Hid (0 < c ∧ ((fb m n k).1 = 0 ∨ c < (fb m n k).2) → fb m n (k + 1) = (p, c)) := fun h => by rw [← hp, ← hco]; rw [← hco] at h; exact fb_up h
      have hS : Hid (¬ (0 < c ∧ ((fb m n k).1 = 0 ∨ c < (fb m n k).2)) → fb m n (k + 1) = fb m n k) := fun h => by rw [← hco] at h; exact fb_stay h
      have hkI : (k : Int) < 13 := by omega
      clear c1 hco
      generalize ct m n p = C at *
      generalize (fb m n k) = O at *
      obtain ⟨b, l⟩ := O
      dsimp only at hU hS ⊢
      by_cases hup : 0 < c ∧ (b = 0 ∨ c < l)
      · have HN : Hid _ := hU.out hup
        have d1 : decide (0 < c) = true := decide_eq_true hup.1
        clear hU hS
        by_cases hb : b = 0
        · subst hb
          clear hup
          go_wp2_with fail
          refine Calls.mono (Hid.out cc) ?_; rintro e w' ⟨rfl, hw'⟩; subst w'
          go_wp2_with fail
          go_round
          case rel => exact ⟨k + 1, by omega, by go_num, by rw [HN.out], by rw [HN.out]⟩
          case measure => simp [intOf]; omega
        · have d2 : (b == 0) = false := beq_eq_false_iff_ne.2 hb
          have d3 : decide (c < l) = true := decide_eq_true (hup.2.resolve_left hb)
          clear hup
          go_wp2_with fail
          refine Calls.mono (Hid.out cc) ?_; rintro e w' ⟨rfl, hw'⟩; subst w'
          go_wp2_with fail
          go_round
          case rel => exact ⟨k + 1, by omega, by go_num, by rw [HN.out], by rw [HN.out]⟩
          case measure => simp [intOf]; omega
      · have HN : Hid _ := hS.out hup
        clear hU hS
        by_cases hc0 : 0 < c
        · have d1 : decide (0 < c) = true := decide_eq_true hc0
          have d2 : (b == 0) = false := beq_eq_false_iff_ne.2 (fun e => hup ⟨hc0, .inl e⟩)
          have d3 : decide (c < l) = false := decide_eq_false (fun e => hup ⟨hc0, .inr e⟩)
          clear hup
          go_wp2_with fail
          refine Calls.mono (Hid.out cc) ?_; rintro e w' ⟨rfl, hw'⟩; subst w'
          go_wp2_with fail
          go_round
          case rel => exact ⟨k + 1, by omega, by go_num, by rw [HN.out], by rw [HN.out]⟩
          case measure => simp [intOf]; omega
        · have d1 : decide (0 < c) = false := decide_eq_false hc0
          clear hup
          go_wp2_with fail
          refine Calls.mono (Hid.out cc) ?_; rintro e w' ⟨rfl, hw'⟩; subst w'
          go_wp2_with fail
          go_round
          case rel => exact ⟨k + 1, by omega, by go_num, by rw [HN.out], by rw [HN.out]⟩
          case measure => simp [intOf]; omega
    · obtain rfl : k = 13 := by omega
      go_wp2_with fail
      go_ret
      exact ⟨rfl, rfl⟩

set_option maxHeartbeats 1000000 in
theorem refFit_any (m n : Int) (w : World) : Calls Tryd.prog 17 #[.int .i64 m, .int .i64 n] w fun e w' => e = .returned (.int .i64 (fb m n 13).1) ∧ w' = w := by
  have c1 : Hid _ := fun s => refCount_any m n s w
  go_enter Tryd.func17, Tryd.ntmps17
  go_wp2_with fail
  go_loop [5, 6, 7, 8] (fun vb vl vs vi => ∃ k : Nat, k ≤ 13 ∧ vi = .int .i64 k ∧ vb = .int .i64 (fb m n k).1 ∧ vl = .int .u64 (fb m n k).2 ∧ vs = .int .i64 (2 ^ k)) (fun _ _ _ vi => 13 - (intOf vi).toNat)
  case atStart => exact ⟨0, Nat.zero_le _, rfl, rfl, rfl, rfl⟩
  case round =>
    obtain ⟨k, hk, rfl, rfl, rfl, rfl⟩ := hrel
    by_cases hlt : k < 13
    · obtain ⟨p, q, c, hp, hq, hc, hco, p0, p1, t0, t1, q0, q1, c0, c1'⟩ := cost_parts m n k (by omega)
      have cc : Hid _ := c1.out p
      have hU : Hid (0 < c ∧ ((fb m n k).1 = 0 ∨ c < (fb m n k).2) → fb m n (k + 1) = (p, c)) := fun h => by rw [← hp, ← hco]; rw [← hco] at h; exact fb_up h
      have hS : Hid (¬ (0 < c ∧ ((fb m n k).1 = 0 ∨ c < (fb m n k).2)) → fb m n (k + 1) = fb m n k) := fun h => by rw [← hco] at h; exact fb_stay h
      have hkI : (k : Int) < 13 := by omega
      have hdbl : Hid ((2 : Int) ^ (k + 1) = 2 * p) := by show _ = _; rw [← hp, Int.pow_succ, Int.mul_comm]
      clear c1 hco
      generalize ct m n p = C at *
      generalize (fb m n k) = O at *
      obtain ⟨b, l⟩ := O
      dsimp only at hU hS ⊢
      by_cases hup : 0 < c ∧ (b = 0 ∨ c < l)
      · have HN : Hid _ := hU.out hup
        have d1 : decide (0 < c) = true := decide_eq_true hup.1
        clear hU hS
        by_cases hb : b = 0
        · subst hb
          clear hup
          go_wp2_with fail
          refine Calls.mono (Hid.out cc) ?_; rintro e w' ⟨rfl, hw'⟩; subst w'
          go_wp2_with fail
          go_round
          case rel => exact ⟨k + 1, by omega, by go_num, by rw [HN.out], by rw [HN.out], by rw [hdbl.out]⟩
          case measure => simp [intOf]; omega
        · have d2 : (b == 0) = false := beq_eq_false_iff_ne.2 hb
          have d3 : decide (c < l) = true := decide_eq_true (hup.2.resolve_left hb)
          clear hup
          go_wp2_with fail
          refine Calls.mono (Hid.out cc) ?_; rintro e w' ⟨rfl, hw'⟩; subst w'
          go_wp2_with fail
          go_round
          case rel => exact ⟨k + 1, by omega, by go_num, by rw [HN.out], by rw [HN.out], by rw [hdbl.out]⟩
          case measure => simp [intOf]; omega
      · have HN : Hid _ := hS.out hup
        clear hU hS
        by_cases hc0 : 0 < c
        · have d1 : decide (0 < c) = true := decide_eq_true hc0
          have d2 : (b == 0) = false := beq_eq_false_iff_ne.2 (fun e => hup ⟨hc0, .inl e⟩)
          have d3 : decide (c < l) = false := decide_eq_false (fun e => hup ⟨hc0, .inr e⟩)
          clear hup
          go_wp2_with fail
          refine Calls.mono (Hid.out cc) ?_; rintro e w' ⟨rfl, hw'⟩; subst w'
          go_wp2_with fail
          go_round
          case rel => exact ⟨k + 1, by omega, by go_num, by rw [HN.out], by rw [HN.out], by rw [hdbl.out]⟩
          case measure => simp [intOf]; omega
        · have d1 : decide (0 < c) = false := decide_eq_false hc0
          clear hup
          go_wp2_with fail
          refine Calls.mono (Hid.out cc) ?_; rintro e w' ⟨rfl, hw'⟩; subst w'
          go_wp2_with fail
          go_round
          case rel => exact ⟨k + 1, by omega, by go_num, by rw [HN.out], by rw [HN.out], by rw [hdbl.out]⟩
          case measure => simp [intOf]; omega
    · obtain rfl : k = 13 := by omega
      go_wp2_with fail
      go_ret
      exact ⟨rfl, rfl⟩

end Go.Proofs.YtdffofpoilfhiaaDoor
