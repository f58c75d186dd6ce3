/- Contract of crt.numberOf. -/
import Derived.Test.YtcppcfbcgopmoaaDoorCrtBits
import Derived.Test.YtcppcfbcgopmoaaDoorBox
import Derived.CellFam
namespace Go.Proofs.YtcppcfbcgopmoaaDoor
open Go.RowKit Res

/-- What is joined: the number, if it is below 2^64; else nothing. -/
def Joined (x y z : Int) (e : Ending) : Prop := (nm x y z ≤ 18446744073709551615 ∧ e = .returned (.tuple #[.int .u64 (nm x y z), .bool true])) ∨ (18446744073709551616 ≤ nm x y z ∧ e = .returned (.tuple #[.int .u64 0, .bool false]))

set_option maxHeartbeats 1000000 in
theorem numberOf_any (x y z : Int) (w : World) (hT : Tab w) :
    Calls Tryd.prog 38 #[.agg #[.int .u64 (d0 x), .int .u64 (d1 x y), .int .u64 (d2 x y z)]] w fun e w' => Joined x y z e ∧ Below w.heap.size w w' := by
  obtain ⟨w1, b1⟩ := box3 w (d0 x) (d1 x y) (d2 x y z) 51
  have T1 := b1.tab hT
  have E1 : Hid _ := b1.eq
  have B1 : Hid _ := b1.bel
  have hc := b1.fam.zero
  have hst : Hid _ := hn_step x y z
  have hth : Hid _ := hn_three x y z
  have hle : Hid _ := hn_le x y z
  have hh0 := hn_nonneg x y z
  have hd0 := dig_nonneg x y z
  have hd1 : ∀ t, r3 (d0 x) (d1 x y) (d2 x y z) t ≤ 998244352 := fun t => by
    have := d0_bd x; have := d1_bd x y; have := d2_bd x y z
    unfold r3; split; omega; split <;> omega
  have hz : Hid (hn x y z 0 = 0) := rfl
  have hJ : Hid (∀ e, Joined x y z e = ((nm x y z ≤ 18446744073709551615 ∧ e = .returned (.tuple #[.int .u64 (nm x y z), .bool true])) ∨ (18446744073709551616 ≤ nm x y z ∧ e = .returned (.tuple #[.int .u64 0, .bool false])))) := fun _ => rfl
  clear b1 hT
  generalize nm x y z = NM at *
  generalize hn x y z = H at *
  generalize r3 (d0 x) (d1 x y) (d2 x y z) = D at *
  go_enter Tryd.func38, Tryd.ntmps38
  go_wp2_with fail
  rw [← E1.out]
  clear E1
  go_loopw [4, 11] (fun vn vi wr => wr = w1 ∧ ∃ i : Nat, i ≤ 3 ∧ vi = .int .i64 i ∧ vn = .int .u64 (H i) ∧ H i ≤ 18446744073709551615) (fun _ vi _ => 3 - (intOf vi).toNat)
  case atStart => exact ⟨rfl, 0, Nat.zero_le _, rfl, by rw [hz.out], by rw [hz.out]; omega⟩
  case round =>
    obtain ⟨rfl, i, hi, rfl, rfl, hHi⟩ := hrel
    by_cases hi3 : i < 3
    · obtain ⟨j, hj⟩ : ∃ j : Nat, i + j = 2 := ⟨2 - i, by omega⟩
      have hjI : (2 : Int) - (i : Int) = (j : Int) := by omega
      have hj3 : j < 3 := by omega
      have hs := hst.out i j hj
      have hcj := hc j hj3
      have hi0 := hh0 i
      have hp0 := (pr_bd (j : Int)).1
      have hp1 := (pr_bd (j : Int)).2
      have hdj := hd0 j
      have hdj1 := hd1 j
      have hm0 : 0 ≤ H i * pr (j : Int) := Int.mul_nonneg hi0 hp0
      have c1 : Hid _ := prime_any (j : Int) wr T1
      have c2 : Hid _ := mul64_any (H i) (pr (j : Int)) hi0 hp0 (by omega) (by omega) wr
      have hs' : Hid _ := hs
      clear hs hc
      generalize H i * pr (j : Int) = M at *
      generalize hXe : H (i + 1) = X at *
      have hX : Hid _ := hXe
      clear hXe
      by_cases hfit : X ≤ 18446744073709551615
      · have hq : M / 18446744073709551616 = 0 := by have := hs'.out; omega
        have hr : M % 18446744073709551616 = M := by have := hs'.out; omega
        have hsum : Hid (M + D j + 0 = X) := by have := hs'.out; show M + D j + 0 = X; omega
        rw [hq, hr] at c2
        have c3 : Hid _ := add64_run M (D j) 0 hm0 hdj (by omega) (by omega) wr
        have hq2 : X / 18446744073709551616 = 0 := by have := hs'.out; omega
        have hr2 : X % 18446744073709551616 = X := by have := hs'.out; omega
        rw [hsum.out, hq2, hr2] at c3
        clear hq hr hq2 hr2
        go_wp2_with fail
        refine Calls.mono (Hid.out c1) ?_; rintro e w' ⟨rfl, hw'⟩; subst w'
        go_wp2_with fail
        refine Calls.mono (Hid.out c2) ?_; rintro e w' ⟨rfl, hw'⟩; subst w'
        go_wp2_with (simp only [c3.out])
        go_roundw
        case rel => exact ⟨trivial, i + 1, by omega, by go_num, by rw [hX.out], by rw [hX.out]; exact hfit⟩
        case measure => simp [intOf]; omega
      · have hbig : Hid (18446744073709551616 ≤ NM) := by
          have := hle.out (i + 1) (by omega)
          rw [hX.out] at this
          show 18446744073709551616 ≤ NM; omega
        by_cases hM : M ≤ 18446744073709551615
        · have hq : M / 18446744073709551616 = 0 := by omega
          have hr : M % 18446744073709551616 = M := by omega
          have hsum : Hid (M + D j + 0 = X) := by have := hs'.out; show M + D j + 0 = X; omega
          rw [hq, hr] at c2
          have c3 : Hid _ := add64_run M (D j) 0 hm0 hdj (by omega) (by omega) wr
          have hq2 : X / 18446744073709551616 = 1 := by have := hs'.out; omega
          rw [hsum.out, hq2] at c3
          clear hq hr hq2
          go_wp2_with fail
          refine Calls.mono (Hid.out c1) ?_; rintro e w' ⟨rfl, hw'⟩; subst w'
          go_wp2_with fail
          refine Calls.mono (Hid.out c2) ?_; rintro e w' ⟨rfl, hw'⟩; subst w'
          go_wp2_with (simp only [c3.out])
          go_ret2
          refine ⟨?_, B1.out⟩
          rw [hJ.out]
          right
          exact ⟨hbig.out, rfl⟩
        · have hq : (M / 18446744073709551616 == 0) = false := beq_eq_false_iff_ne.2 (by omega)
          have hr0 : 0 ≤ M % 18446744073709551616 := by omega
          have c3 : Hid _ := add64_run (M % 18446744073709551616) (D j) 0 hr0 hdj (by omega) (by omega) wr
          generalize M / 18446744073709551616 = Q at *
          generalize M % 18446744073709551616 = R at *
          generalize (R + D j + 0) / 18446744073709551616 = Q2 at *
          generalize (R + D j + 0) % 18446744073709551616 = R2 at *
          go_wp2_with fail
          refine Calls.mono (Hid.out c1) ?_; rintro e w' ⟨rfl, hw'⟩; subst w'
          go_wp2_with fail
          refine Calls.mono (Hid.out c2) ?_; rintro e w' ⟨rfl, hw'⟩; subst w'
          go_wp2_with (simp only [c3.out])
          go_ret2
          refine ⟨?_, B1.out⟩
          rw [hJ.out]
          right
          exact ⟨hbig.out, rfl⟩
    · obtain rfl : i = 3 := by omega
      have hfin : Hid _ := hth.out
      go_wp2_with fail
      go_ret2
      refine ⟨?_, B1.out⟩
      rw [hJ.out]
      left
      rw [← hth.out]
      exact ⟨hHi, rfl⟩
end Go.Proofs.YtcppcfbcgopmoaaDoor
