/- Contract of crt.inverses. -/
import Derived.Test.YtcppcfbcgopmoaaDoorResInv
import Derived.Test.YtcppcfbcgopmoaaDoorBox
import Derived.CellFam
namespace Go.Proofs.YtcppcfbcgopmoaaDoor
open Go.RowKit Res

set_option maxHeartbeats 1000000 in
theorem inverses_any (w : World) (hT : Tab w) :
    Calls Tryd.prog 37 #[] w fun e w' => e = .returned (.agg #[.int .u64 1, .int .u64 47450712, .int .u64 115990628]) ∧ Below w.heap.size w w' := by
  obtain ⟨w1, b1⟩ := box3 w 0 0 0 51
  obtain ⟨w2, b2⟩ := box3 w1 0 0 0 51
  have T2 := b2.tab (b1.tab hT)
  have hlt := tab_lt hT
  have E1 : Hid _ := b1.eq
  have E2 : Hid _ := b2.eq
  have s1 : w.heap.size < w1.heap.size := by have := b1.size; omega
  have B2 : Hid (Below w.heap.size w w2) := b1.bel.trans (b2.bel.mono b1.bel.size)
  have FR : Hid (Fam w2 w.heap.size 0 3 (r3 0 0 0)) := b1.fam.below b2.bel s1
  have WR : Hid (Wrt w2 w.heap.size 0 3) := b1.wrt.below b2.bel s1
  have F0 : Hid (Fill w2 w2 w1.heap.size 3 0 (r3 1 47450712 115990628) (r3 0 0 0)) := Fill.start _ b2.fam b2.wrt
  have HS : Hid (w.heap.size + 1 = w1.heap.size) := b1.size.symm
  clear b1 b2 hT
  generalize w1.heap.size = g at *
  go_enter Tryd.func37, Tryd.ntmps37
  go_wp2_with fail
  rw [← E1.out, ← E2.out, HS.out]
  clear E1 E2 HS
  go_loopw [5] (fun vk wr => ∃ k : Nat, k ≤ 3 ∧ vk = .int .i64 k ∧ Fill w2 wr g 3 k (r3 1 47450712 115990628) (r3 0 0 0)) (fun vk _ => 3 - (intOf vk).toNat)
  case atStart => exact ⟨0, Nat.zero_le _, rfl, F0.out⟩
  case round =>
    obtain ⟨k, hk, rfl, hF⟩ := hrel
    have HF : Hid _ := hF
    have Tr : Tab wr := T2.wrote hF.wrote (fun o e => by omega)
    by_cases hk3 : k < 3
    · have hc := hF.fam.zero
      have hf := hF.wrt.zero
      obtain ⟨hne, hiv⟩ := pa_inv k hk3
      have c1 : Hid _ := inv_yes k (pa k k) wr Tr (pa_nonneg k k) hne
      rw [hiv] at c1
      have hstep : Hid _ := hF.step hk3 (x := r3 1 47450712 115990628 k) rfl
      have hpn : ∀ i, 0 ≤ pa k i := pa_nonneg k
      have hps : Hid (∀ i : Nat, md k (pa k i * pr i) = pa k (i + 1)) := fun _ => rfl
      have hp0 : Hid (pa k 0 = 1) := rfl
      clear hF hne hiv HF
      generalize r3 1 47450712 115990628 k = x at *
      go_wp2_with fail
      go_loopw [3, 9] (fun vp vi wx => wx = wr ∧ ∃ i : Nat, i ≤ k ∧ vi = .int .i64 i ∧ vp = .int .u64 (pa k i)) (fun _ vi _ => k - (intOf vi).toNat)
      case atStart => exact ⟨rfl, 0, Nat.zero_le _, rfl, by rw [hp0.out]⟩
      case round =>
        obtain ⟨rfl, i, hi, rfl, rfl⟩ := hrel
        by_cases hik : i < k
        · have hi0 := hpn i
          have hpr := (pr_bd (i : Int)).1
          go_wp2_with fail
          refine Calls.mono (prime_any _ _ Tr) ?_; rintro e w' ⟨rfl, hw'⟩; subst w'
          go_wp2_with fail
          refine Calls.mono (mul_any _ _ _ _ Tr hi0 hpr) ?_; rintro e w' ⟨rfl, hw'⟩; subst w'
          go_wp2_with fail
          go_roundw
          case rel => exact ⟨trivial, i + 1, by omega, by go_num, by rw [hps.out]⟩
          case measure => simp [intOf]; omega
        · obtain rfl : i = k := by omega
          go_wp2_with fail
          refine Calls.mono (Hid.out c1) ?_; rintro e w' ⟨rfl, hw'⟩; subst w'
          go_wp2_with fail
          go_roundw
          case rel => exact ⟨i + 1, by omega, by go_num, hstep.out⟩
          case measure => simp [intOf]; omega
    · obtain rfl : k = 3 := by omega
      have hfin := (hF.fin (Nat.le_refl 3)).three
      have hbel : Hid (Below w.heap.size w wr) := B2.out.trans (hF.wrote.below (fun b o e => by omega))
      obtain ⟨q0, q1, q2⟩ := hfin
      have q0' : wr.cell? ⟨g, 0, none⟩ = some (.int .u64 1) := q0
      have q1' : wr.cell? ⟨g, 1, none⟩ = some (.int .u64 47450712) := q1
      have q2' : wr.cell? ⟨g, 2, none⟩ = some (.int .u64 115990628) := q2
      have FZ : Hid (Fam wr w.heap.size 0 3 (r3 0 0 0)) := hF.wrote.fam FR.out (fun t _ e => by omega)
      obtain ⟨z0, z1, z2⟩ := FZ.out.three
      have hwr := (hF.wrote.wrt WR.out).zero
      have f0 := hwr 0 (by omega)
      have f1 := hwr 1 (by omega)
      have f2 := hwr 2 (by omega)
      clear hF HF q0 q1 q2 hwr
      go_wp2_with fail
      refine bodyPost_ret (results_set3 rfl _ wr w.heap.size 1 47450712 115990628 rfl FZ.out) rfl ?_
      exact ⟨rfl, below_three hbel.out (Nat.le_refl _) _ _ _⟩
end Go.Proofs.YtcppcfbcgopmoaaDoor
