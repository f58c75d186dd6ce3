/- Contracts of class.Not, class.Or, class.Full. -/
import Derived.Test.YtodjjajofiaehaaDoorClsWith
namespace Go.Proofs.YtodjjajofiaehaaDoor
open Go.RowKit
namespace Cls

set_option maxHeartbeats 1000000 in
theorem not_any (f : Nat → Bool) (w : World) :
    Calls Tryd.prog 16 #[.agg #[.int .u64 ((wd (f) 0 : Nat) : Int), .int .u64 ((wd (f) 1 : Nat) : Int), .int .u64 ((wd (f) 2 : Nat) : Int), .int .u64 ((wd (f) 3 : Nat) : Int)]] w fun e w' => e = .returned (.agg #[.int .u64 ((wd (fun b => !f b) 0 : Nat) : Int), .int .u64 ((wd (fun b => !f b) 1 : Nat) : Int), .int .u64 ((wd (fun b => !f b) 2 : Nat) : Int), .int .u64 ((wd (fun b => !f b) 3 : Nat) : Int)]) ∧ Below w.heap.size w w' := by
  obtain ⟨w1, b1⟩ := box w f
  obtain ⟨w2, b2⟩ := box0 w1
  have E1 : Hid _ := b1.eq
  have E2 : Hid _ := b2.eq
  have s1 : w.heap.size < w1.heap.size := by have := b1.size; omega
  have B2 : Hid (Below w.heap.size w w2) := b1.bel.trans (b2.bel.mono b1.bel.size)
  have F0 : Hid (Fill w2 w2 w.heap.size 4 0 (wi (fun b => !f b)) (wi f)) := Fill.start _ (b1.fam.below b2.bel s1) (b1.wrt.below b2.bel s1)
  have RF : Hid (Fam w2 w1.heap.size 0 4 (wi (fun _ => false))) := b2.fam
  have RW : Hid (Wrt w2 w1.heap.size 0 4) := b2.wrt
  have HS : Hid (w.heap.size + 1 = w1.heap.size) := b1.size.symm
  have HK : Hid (∀ k, bits .xor .u64 18446744073709551615 (wd f k : Int) = wi (fun b => !f b) k) := fun k => not_key f k
  clear b1 b2
  generalize w1.heap.size = g at *
  go_enter Tryd.func16, Tryd.ntmps16
  go_wp2_with fail
  rw [← E1.out, ← E2.out, HS.out]
  clear E1 E2 HS
  go_loopw [4] (fun vk wr => ∃ k : Nat, k ≤ 4 ∧ vk = .int .i64 k ∧ Fill w2 wr w.heap.size 4 k (wi (fun b => !f b)) (wi f)) (fun vk _ => 4 - (intOf vk).toNat)
  case atStart => exact ⟨0, Nat.zero_le _, rfl, F0.out⟩
  case round =>
    obtain ⟨k, hk, rfl, hF⟩ := hrel
    by_cases hk4 : k < 4
    · have hc : wr.cell? ⟨w.heap.size, k, none⟩ = some (.int .u64 (wd f k : Nat)) := by
        have := hF.fam.zero k hk4
        rwa [mix_hi (Nat.le_refl k)] at this
      have hf := hF.wrt.zero k hk4
      have hstep : Hid _ := hF.step hk4 (HK.out k)
      clear hF
      go_wp2_with fail
      go_roundw
      case rel => exact ⟨k + 1, by omega, by go_num, hstep.out⟩
      case measure => simp [intOf]; omega
    · obtain rfl : k = 4 := by omega
      have FN := hF.fin (Nat.le_refl 4)
      have hbel : Hid (Below w.heap.size w wr) := B2.out.trans (hF.wrote.below (fun b o e => by omega))
      have FZ : Hid (Fam wr g 0 4 (wi (fun _ => false))) := hF.wrote.fam RF.out (fun t _ e => by omega)
      obtain ⟨q0, q1, q2, q3⟩ := c4 FN
      obtain ⟨z0, z1, z2, z3⟩ := c4 FZ.out
      obtain ⟨f0, f1, f2, f3⟩ := f4 (hF.wrote.wrt RW.out)
      clear hF FN
      go_wp2_with fail
      refine bodyPost_ret (results_set4 rfl _ wr g (fun b => !f b) rfl FZ.out) rfl ?_
      exact ⟨rfl, set4_below hbel.out (by omega) _⟩

set_option maxHeartbeats 1000000 in
theorem or_any (f g : Nat → Bool) (w : World) :
    Calls Tryd.prog 18 #[.agg #[.int .u64 ((wd (f) 0 : Nat) : Int), .int .u64 ((wd (f) 1 : Nat) : Int), .int .u64 ((wd (f) 2 : Nat) : Int), .int .u64 ((wd (f) 3 : Nat) : Int)], .agg #[.int .u64 ((wd (g) 0 : Nat) : Int), .int .u64 ((wd (g) 1 : Nat) : Int), .int .u64 ((wd (g) 2 : Nat) : Int), .int .u64 ((wd (g) 3 : Nat) : Int)]] w fun e w' => e = .returned (.agg #[.int .u64 ((wd (fun b => f b || g b) 0 : Nat) : Int), .int .u64 ((wd (fun b => f b || g b) 1 : Nat) : Int), .int .u64 ((wd (fun b => f b || g b) 2 : Nat) : Int), .int .u64 ((wd (fun b => f b || g b) 3 : Nat) : Int)]) ∧ Below w.heap.size w w' := by
  obtain ⟨w1, b1⟩ := box w f
  obtain ⟨w2, b2⟩ := box w1 g
  obtain ⟨w3, b3⟩ := box0 w2
  have E1 : Hid _ := b1.eq
  have E2 : Hid _ := b2.eq
  have E3 : Hid _ := b3.eq
  have s1 : w.heap.size < w1.heap.size := by have := b1.size; omega
  have s2 : w1.heap.size < w2.heap.size := by have := b2.size; omega
  have C23 : Below w1.heap.size w1 w3 := b2.bel.trans (b3.bel.mono b2.bel.size)
  have B3 : Hid (Below w.heap.size w w3) := b1.bel.trans (C23.mono b1.bel.size)
  have F0 : Hid (Fill w3 w3 w.heap.size 4 0 (wi (fun b => f b || g b)) (wi f)) := Fill.start _ (b1.fam.below C23 s1) (b1.wrt.below C23 s1)
  have GF : Hid (Fam w3 w1.heap.size 0 4 (wi g)) := b2.fam.below b3.bel s2
  have RF : Hid (Fam w3 w2.heap.size 0 4 (wi (fun _ => false))) := b3.fam
  have RW : Hid (Wrt w3 w2.heap.size 0 4) := b3.wrt
  have H1 : Hid (w.heap.size + 1 = w1.heap.size) := b1.size.symm
  have H2 : Hid (w1.heap.size + 1 = w2.heap.size) := b2.size.symm
  have HK : Hid (∀ k, bits .or .u64 (wd f k : Int) (wd g k : Int) = wi (fun b => f b || g b) k) := fun k => or_key f g k
  clear b1 b2 b3 C23
  generalize w1.heap.size = g1 at *
  generalize w2.heap.size = g2 at *
  go_enter Tryd.func18, Tryd.ntmps18
  go_wp2_with fail
  rw [← E1.out, ← E2.out, ← E3.out, H1.out, H2.out]
  clear E1 E2 E3 H1 H2
  go_loopw [6] (fun vk wr => ∃ k : Nat, k ≤ 4 ∧ vk = .int .i64 k ∧ Fill w3 wr w.heap.size 4 k (wi (fun b => f b || g b)) (wi f)) (fun vk _ => 4 - (intOf vk).toNat)
  case atStart => exact ⟨0, Nat.zero_le _, rfl, F0.out⟩
  case round =>
    obtain ⟨k, hk, rfl, hF⟩ := hrel
    by_cases hk4 : k < 4
    · have hc : wr.cell? ⟨w.heap.size, k, none⟩ = some (.int .u64 (wd f k : Nat)) := by
        have := hF.fam.zero k hk4
        rwa [mix_hi (Nat.le_refl k)] at this
      have hd : wr.cell? ⟨g1, k, none⟩ = some (.int .u64 (wd g k : Nat)) := (hF.wrote.fam GF.out (fun t _ e => by omega)).zero k hk4
      have hf := hF.wrt.zero k hk4
      have hstep : Hid _ := (hF.step hk4 (HK.out k)).drew
      clear hF
      go_wp2_with fail
      go_region
      all_goals
        go_wp2_with fail
        go_roundw
        case rel => exact ⟨k + 1, by omega, by go_num, hstep.out⟩
        case measure => simp [intOf]; omega
    · obtain rfl : k = 4 := by omega
      have FN := hF.fin (Nat.le_refl 4)
      have hbel : Hid (Below w.heap.size w wr) := B3.out.trans (hF.wrote.below (fun b o e => by omega))
      have FZ : Hid (Fam wr g2 0 4 (wi (fun _ => false))) := hF.wrote.fam RF.out (fun t _ e => by omega)
      obtain ⟨q0, q1, q2, q3⟩ := c4 FN
      obtain ⟨z0, z1, z2, z3⟩ := c4 FZ.out
      obtain ⟨f0, f1, f2, f3⟩ := f4 (hF.wrote.wrt RW.out)
      clear hF FN
      go_wp2_with fail
      refine bodyPost_ret (results_set4 rfl _ wr g2 (fun b => f b || g b) rfl FZ.out) rfl ?_
      exact ⟨rfl, set4_below hbel.out (by omega) _⟩

set_option maxHeartbeats 1000000 in
theorem full_any (w : World) :
    Calls Tryd.prog 14 #[] w fun e w' => e = .returned (.agg #[.int .u64 ((wd (fun _ => true) 0 : Nat) : Int), .int .u64 ((wd (fun _ => true) 1 : Nat) : Int), .int .u64 ((wd (fun _ => true) 2 : Nat) : Int), .int .u64 ((wd (fun _ => true) 3 : Nat) : Int)]) ∧ Below w.heap.size w w' := by
  obtain ⟨w1, b1⟩ := box0 w
  have E1 : Hid _ := b1.eq
  have s1 : w.heap.size < w1.heap.size := by have := b1.size; omega
  have B1 : Hid (Below w.heap.size w w1) := b1.bel
  have RF : Hid (Fam w1 w.heap.size 0 4 (wi (fun _ => false))) := b1.fam
  have RW : Hid (Wrt w1 w.heap.size 0 4) := b1.wrt
  have c1 : Hid _ := not_any (fun _ => false) w1
  have hz : ∀ k, wd (fun _ => false) k = 0 := wd_none
  clear b1
  go_enter Tryd.func14, Tryd.ntmps14
  go_wp2_with fail
  rw [← E1.out]
  clear E1
  simp only [hz] at c1
  refine Calls.mono (Hid.out c1) ?_; rintro e w2 ⟨rfl, b2⟩
  have FZ : Hid (Fam w2 w.heap.size 0 4 (wi (fun _ => false))) := RF.out.below b2 s1
  obtain ⟨z0, z1, z2, z3⟩ := c4 FZ.out
  obtain ⟨f0, f1, f2, f3⟩ := f4 (Wrt.below RW.out b2 s1)
  have B2 : Hid (Below w.heap.size w w2) := B1.out.trans (b2.mono B1.out.size)
  clear b2
  go_wp2_with fail
  refine bodyPost_ret (results_set4 rfl _ w2 w.heap.size (fun _ => true) rfl FZ.out) rfl ?_
  exact ⟨rfl, set4_below B2.out (Nat.le_refl _) _⟩
end Cls
end Go.Proofs.YtodjjajofiaehaaDoor
