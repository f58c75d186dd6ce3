/- Contract of crt.inverses. Contract of crt.digitsOf. Contract of crt.numberOf. Contracts of crt.Parts, crt.Mixed and crt.Join. Contract of crt.Join. Contracts of the document's own answers of layer 3 (beagleref03): Parts, quotient, Mixed, Join. Contract of crt.Rows. -/
import Derived.Test.YtlogdjhnhnfbkaaDoorResInv
import Derived.Test.YtlogdjhnhnfbkaaDoorBox
import Derived.CellFam
import Derived.Deep.QuietTactic
import Derived.BigQuiet
import Derived.RegionTactic
import Derived.BigRegion
import Derived.Deep.RegionWith
import Derived.Test.YtlogdjhnhnfbkaaDoorCrtBits
import Derived.Deep.DrawnRows
import Derived.Deep.RegionHeld3

namespace Go.Proofs.YtlogdjhnhnfbkaaDoor
open Go.RowKit Res

set_option maxHeartbeats 1000000 in
theorem inverses_any (w : World) (hT : Tab w) :
    Calls Tryd.prog 97 #[] w fun e w' => e = .returned (.agg #[.int .u64 1, .int .u64 47450712, .int .u64 115990628]) ∧ Below w.heap.size w w' := by
  obtain ⟨w1, b1⟩ := box3 w 0 0 0 131
  obtain ⟨w2, b2⟩ := box3 w1 0 0 0 131
  have T2 := b2.tab (b1.tab hT)
  have hlt := tab_lt hT
  have E1 : Hid _ := b1.eq
  have E2 : Hid _ := b2.eq
  have s1 : w.heap.size < w1.heap.size := by have := b1.size; omega
  have B2 : Hid (Below w.heap.size w w2) := b1.bel.trans (b2.bel.mono b1.bel.size)
  have FR : Hid (Fam w2 w.heap.size 0 3 (r3 0 0 0)) := b1.fam.below b2.bel s1
  have WR : Hid (Wrt w2 w.heap.size 0 3) := b1.wrt.below b2.bel s1
  have F0 : Hid (Fill w2 w2 w1.heap.size 3 0 (r3 1 47450712 115990628) (r3 0 0 0)) := Fill.start _ b2.fam b2.wrt
  have HS : Hid (w.heap.size + 1 = w1.heap.size) := b1.size.symm
  clear b1 b2 hT
  generalize w1.heap.size = g at *
  go_enter Tryd.func97, Tryd.ntmps97
  go_wp2_with fail
  rw [← E1.out, ← E2.out, HS.out]
  clear E1 E2 HS
  go_loopw [5] (fun vk wr => ∃ k : Nat, k ≤ 3 ∧ vk = .int .i64 k ∧ Fill w2 wr g 3 k (r3 1 47450712 115990628) (r3 0 0 0)) (fun vk _ => 3 - (intOf vk).toNat)
  case atStart => exact ⟨0, Nat.zero_le _, rfl, F0.out⟩
  case round =>
    obtain ⟨k, hk, rfl, hF⟩ := hrel
    have HF : Hid _ := hF
    have Tr : Tab wr := T2.wrote hF.wrote (fun o e => by omega)
    by_cases hk3 : k < 3
    · have hc := hF.fam.zero
      have hf := hF.wrt.zero
      obtain ⟨hne, hiv⟩ := pa_inv k hk3
      have c1 : Hid _ := inv_yes k (pa k k) wr Tr (pa_nonneg k k) hne
      rw [hiv] at c1
      have hstep : Hid _ := hF.step hk3 (x := r3 1 47450712 115990628 k) rfl
      have hpn : ∀ i, 0 ≤ pa k i := pa_nonneg k
      have hps : Hid (∀ i : Nat, md k (pa k i * pr i) = pa k (i + 1)) := fun _ => rfl
      have hp0 : Hid (pa k 0 = 1) := rfl
      clear hF hne hiv HF
      generalize r3 1 47450712 115990628 k = x at *
      go_wp2_with fail
      go_loopw [3, 9] (fun vp vi wx => wx = wr ∧ ∃ i : Nat, i ≤ k ∧ vi = .int .i64 i ∧ vp = .int .u64 (pa k i)) (fun _ vi _ => k - (intOf vi).toNat)
      case atStart => exact ⟨rfl, 0, Nat.zero_le _, rfl, by rw [hp0.out]⟩
      case round =>
        obtain ⟨rfl, i, hi, rfl, rfl⟩ := hrel
        by_cases hik : i < k
        · have hi0 := hpn i
          have hpr := (pr_bd (i : Int)).1
          go_wp2_with fail
          refine Calls.mono (prime_any _ _ Tr) ?_; rintro e w' ⟨rfl, hw'⟩; subst w'
          go_wp2_with fail
          refine Calls.mono (mul_any _ _ _ _ Tr hi0 hpr) ?_; rintro e w' ⟨rfl, hw'⟩; subst w'
          go_wp2_with fail
          go_roundw
          case rel => exact ⟨trivial, i + 1, by omega, by go_num, by rw [hps.out]⟩
          case measure => simp [intOf]; omega
        · obtain rfl : i = k := by omega
          go_wp2_with fail
          refine Calls.mono (Hid.out c1) ?_; rintro e w' ⟨rfl, hw'⟩; subst w'
          go_wp2_with fail
          go_roundw
          case rel => exact ⟨i + 1, by omega, by go_num, hstep.out⟩
          case measure => simp [intOf]; omega
    · obtain rfl : k = 3 := by omega
      have hfin := (hF.fin (Nat.le_refl 3)).three
      have hbel : Hid (Below w.heap.size w wr) := B2.out.trans (hF.wrote.below (fun b o e => by omega))
      obtain ⟨q0, q1, q2⟩ := hfin
      have q0' : wr.cell? ⟨g, 0, none⟩ = some (.int .u64 1) := q0
      have q1' : wr.cell? ⟨g, 1, none⟩ = some (.int .u64 47450712) := q1
      have q2' : wr.cell? ⟨g, 2, none⟩ = some (.int .u64 115990628) := q2
      have FZ : Hid (Fam wr w.heap.size 0 3 (r3 0 0 0)) := hF.wrote.fam FR.out (fun t _ e => by omega)
      obtain ⟨z0, z1, z2⟩ := FZ.out.three
      have hwr := (hF.wrote.wrt WR.out).zero
      have f0 := hwr 0 (by omega)
      have f1 := hwr 1 (by omega)
      have f2 := hwr 2 (by omega)
      clear hF HF q0 q1 q2 hwr
      go_wp2_with fail
      refine bodyPost_ret (results_set3 rfl _ wr w.heap.size 1 47450712 115990628 rfl FZ.out) rfl ?_
      exact ⟨rfl, below_three hbel.out (Nat.le_refl _) _ _ _⟩

end Go.Proofs.YtlogdjhnhnfbkaaDoor

namespace Go.Proofs.YtlogdjhnhnfbkaaDoor
open Go.RowKit Res

set_option maxHeartbeats 2000000 in
theorem digitsOf_any (x y z : Int) (hx : 0 ≤ x) (hy : 0 ≤ y) (hz : 0 ≤ z) (w : World) (hT : Tab w) :
    Calls Tryd.prog 99 #[.agg #[.int .u64 x, .int .u64 y, .int .u64 z], .agg #[.int .u64 1, .int .u64 47450712, .int .u64 115990628]] w fun e w' => e = .returned (.agg #[.int .u64 (d0 x), .int .u64 (d1 x y), .int .u64 (d2 x y z)]) ∧ Below w.heap.size w w' := by
  obtain ⟨w1, b1⟩ := box3 w x y z 131
  obtain ⟨w2, b2⟩ := box3 w1 1 47450712 115990628 131
  obtain ⟨w3, b3⟩ := box3 w2 0 0 0 131
  obtain ⟨w4, b4⟩ := box3 w3 0 0 0 131
  have T4 := b4.tab (b3.tab (b2.tab (b1.tab hT)))
  have hlt := tab_lt hT
  have E1 : Hid _ := b1.eq
  have E2 : Hid _ := b2.eq
  have E3 : Hid _ := b3.eq
  have E4 : Hid _ := b4.eq
  have s1 : w.heap.size < w1.heap.size := by have := b1.size; omega
  have s2 : w1.heap.size < w2.heap.size := by have := b2.size; omega
  have s3 : w2.heap.size < w3.heap.size := by have := b3.size; omega
  have C12 : Below w1.heap.size w1 w4 := b2.bel.trans ((b3.bel.trans (b4.bel.mono b3.bel.size)).mono b2.bel.size)
  have C23 : Below w2.heap.size w2 w4 := b3.bel.trans (b4.bel.mono b3.bel.size)
  have B4 : Hid (Below w.heap.size w w4) := b1.bel.trans (C12.mono b1.bel.size)
  have Fz : Hid (Fam w4 w.heap.size 0 3 (r3 x y z)) := b1.fam.below C12 s1
  have Fi : Hid (Fam w4 w1.heap.size 0 3 (r3 1 47450712 115990628)) := b2.fam.below C23 s2
  have Fr : Hid (Fam w4 w2.heap.size 0 3 (r3 0 0 0)) := b3.fam.below b4.bel s3
  have Wr : Hid (Wrt w4 w2.heap.size 0 3) := b3.wrt.below b4.bel s3
  have F0 : Hid (Fill w4 w4 w3.heap.size 3 0 (r3 (d0 x) (d1 x y) (d2 x y z)) (r3 0 0 0)) := Fill.start _ b4.fam b4.wrt
  have H1 : Hid (w.heap.size + 1 = w1.heap.size) := b1.size.symm
  have H2 : Hid (w1.heap.size + 1 = w2.heap.size) := b2.size.symm
  have H3 : Hid (w2.heap.size + 1 = w3.heap.size) := b3.size.symm
  have hdg : Hid _ := digit x y z
  have hD0 := dig_nonneg x y z
  have hZ0 := r3_nonneg hx hy hz
  have hI0 := r3_nonneg (x := 1) (y := 47450712) (z := 115990628) (by omega) (by omega) (by omega)
  have hret : Hid (r3 (d0 x) (d1 x y) (d2 x y z) 0 = d0 x ∧ r3 (d0 x) (d1 x y) (d2 x y z) 1 = d1 x y ∧ r3 (d0 x) (d1 x y) (d2 x y z) 2 = d2 x y z) := ⟨rfl, rfl, rfl⟩
  clear b1 b2 b3 b4 hT C12 C23
  generalize w1.heap.size = g1 at *
  generalize w2.heap.size = g2 at *
  generalize w3.heap.size = g3 at *
  go_enter Tryd.func99, Tryd.ntmps99
  go_wp2_with fail
  rw [← E1.out, ← E2.out, ← E3.out, ← E4.out, H1.out, H2.out, H3.out]
  clear E1 E2 E3 E4 H1 H2 H3
  generalize r3 (d0 x) (d1 x y) (d2 x y z) = D at *
  generalize r3 1 47450712 115990628 = I at *
  generalize r3 x y z = Z at *
  go_loopw [10] (fun vk wr => ∃ k : Nat, k ≤ 3 ∧ vk = .int .i64 k ∧ Fill w4 wr g3 3 k D (r3 0 0 0)) (fun vk _ => 3 - (intOf vk).toNat)
  case atStart => exact ⟨0, Nat.zero_le _, rfl, F0.out⟩
  case round =>
    rename World => wo
    obtain ⟨k, hk, rfl, hF⟩ := hrel
    have HF : Hid _ := hF
    have Tr : Tab wo := T4.wrote hF.wrote (fun o e => by omega)
    by_cases hk3 : k < 3
    · have hc : ∀ t, t < k → wo.cell? ⟨g3, t, none⟩ = some (.int .u64 (D t)) := fun t ht => by
        have := hF.fam.zero t (by omega)
        rwa [mix_lo ht] at this
      have hzc : Hid (wo.cell? ⟨w.heap.size, k, none⟩ = some (.int .u64 (Z k))) := (hF.wrote.fam Fz.out (fun t _ e => by omega)).zero k hk3
      have hic : Hid (wo.cell? ⟨g1, k, none⟩ = some (.int .u64 (I k))) := (hF.wrote.fam Fi.out (fun t _ e => by omega)).zero k hk3
      have hdg' : Hid _ := hdg.out k hk3
      have hah : ∀ i, 0 ≤ ah D k i := ah_nonneg D k
      have hahs : Hid (∀ i j : Nat, i + j + 1 = k → md k (md k (ah D k i * pr (j : Int)) + D j) = ah D k (i + 1)) := fun i j h => by
        obtain rfl : j = k - 1 - i := by omega
        have : ((k - 1 - i : Nat) : Int) = (k : Int) - 1 - (i : Int) := by omega
        rw [this]; rfl
      have hah0 : Hid (ah D k 0 = 0) := rfl
      have Hc : Hid _ := hc
      clear hF hc
      go_wp2_with fail
      go_loopw [7, 14] (fun vp vi wx => ∃ i : Nat, i ≤ k ∧ vi = .int .i64 i ∧ vp = .int .u64 (ah D k i) ∧ ∃ q, wx = wo.drewN q) (fun _ vi _ => k - (intOf vi).toNat)
      case atStart => exact ⟨0, Nat.zero_le _, rfl, by rw [hah0.out], 0, rfl⟩
      case round =>
        obtain ⟨i, hi, rfl, rfl, q, hwx⟩ := hrel
        have HW : Hid (wr = wo.drewN q) := hwx
        have T7 : Tab wr := by rw [hwx]; exact Tr
        have ha0 := hah i
        by_cases hik : i < k
        · obtain ⟨j, hj⟩ : ∃ j : Nat, i + j + 1 = k := ⟨k - 1 - i, by omega⟩
          have hjI : (k : Int) - 1 - (i : Int) = (j : Int) := by omega
          have hcj : wr.cell? ⟨g3, j, none⟩ = some (.int .u64 (D j)) := by rw [hwx]; exact Hc.out j (by omega)
          have hs : Hid _ := hahs.out i j hj
          have hp0 := (pr_bd (j : Int)).1
          have hm0 := md_nonneg k (ah D k i * pr (j : Int))
          have hdj := hD0 j
          have hj3 : (j : Int) < 3 := by omega
          have hj0 : (0 : Int) ≤ (j : Int) := by omega
          clear hwx hj
          go_wp2_with fail
          go_quiet ((first | (go_at_call 100; exact Calls.quiet_of_same (prime_any _ _ T7)) | (go_at_call 89; exact Calls.quiet_of_same (mul_any _ _ _ _ T7 ha0 hp0)) | (go_at_call 106; exact Calls.quiet_of_same (add_any _ _ _ _ T7 hm0 hdj))))
          go_wp2_with fail
          go_roundw
          case rel =>
            refine ⟨i + 1, by omega, by go_num, by rw [hs.out], q + nq, ?_⟩
            rw [HW.out]
            exact World.drewN_drewN _ _ _
          case measure => simp [intOf]; omega
        · obtain rfl : i = k := by omega
          have hzc' : wr.cell? ⟨w.heap.size, i, none⟩ = some (.int .u64 (Z i)) := by rw [hwx]; exact hzc.out
          have hic' : wr.cell? ⟨g1, i, none⟩ = some (.int .u64 (I i)) := by rw [hwx]; exact hic.out
          have HF7 : Hid (Fill w4 wr g3 3 i D (r3 0 0 0)) := by show Fill w4 wr g3 3 i D (r3 0 0 0); rw [hwx]; exact HF.out.drewN q
          have hcc := HF7.out.fam.zero i hk3
          have hww := HF7.out.wrt.zero i hk3
          have hZi := hZ0 i
          have hIi := hI0 i
          have hm0 := md_nonneg i (Z i - ah D i i)
          have hi3 : (i : Int) < 3 := by omega
          have hi0 : (0 : Int) ≤ (i : Int) := by omega
          clear hwx HF Hc hahs hah hah0 hzc hic
          go_wp2_with fail
          go_region_with (first | (go_at_call 107; refine (sub_any _ _ _ _ ?hT hZi ha0).mono ?_; (case hT => exact T7); rintro e w' ⟨rfl, hw'⟩; subst w') | (go_at_call 89; refine (mul_any _ _ _ _ ?hT hm0 hIi).mono ?_; (case hT => exact T7); rintro e w' ⟨rfl, hw'⟩; subst w'))
          all_goals
            go_wp2_with fail
            go_roundw
            case rel => exact ⟨i + 1, by omega, by go_num, (HF7.out.step hk3 hdg'.out).drew⟩
            case measure => simp [intOf]; omega
    · obtain rfl : k = 3 := by omega
      obtain ⟨q0, q1, q2⟩ := (hF.fin (Nat.le_refl 3)).three
      have hbel : Hid (Below w.heap.size w wo) := B4.out.trans (hF.wrote.below (fun b o e => by omega))
      have FZ : Hid (Fam wo g2 0 3 (r3 0 0 0)) := hF.wrote.fam Fr.out (fun t _ e => by omega)
      obtain ⟨z0, z1, z2⟩ := FZ.out.three
      have hwr := (hF.wrote.wrt Wr.out).zero
      have f0 := hwr 0 (by omega)
      have f1 := hwr 1 (by omega)
      have f2 := hwr 2 (by omega)
      rw [hret.out.1] at q0
      rw [hret.out.2.1] at q1
      rw [hret.out.2.2] at q2
      clear hF HF hwr
      go_wp2_with fail
      refine bodyPost_ret (results_set3 rfl _ wo g2 (d0 x) (d1 x y) (d2 x y z) rfl FZ.out) rfl ?_
      exact ⟨rfl, below_three hbel.out (by omega) _ _ _⟩

end Go.Proofs.YtlogdjhnhnfbkaaDoor

namespace Go.Proofs.YtlogdjhnhnfbkaaDoor
open Go.RowKit Res

/-- What is joined: the number, if it is below 2^64; else nothing. -/
def Joined (x y z : Int) (e : Ending) : Prop := (nm x y z ≤ 18446744073709551615 ∧ e = .returned (.tuple #[.int .u64 (nm x y z), .bool true])) ∨ (18446744073709551616 ≤ nm x y z ∧ e = .returned (.tuple #[.int .u64 0, .bool false]))

set_option maxRecDepth 100000 in
set_option maxHeartbeats 1000000 in
theorem numberOf_any (x y z : Int) (w : World) (hT : Tab w) :
    Calls Tryd.prog 98 #[.agg #[.int .u64 (d0 x), .int .u64 (d1 x y), .int .u64 (d2 x y z)]] w fun e w' => Joined x y z e ∧ Below w.heap.size w w' := by
  obtain ⟨w1, b1⟩ := box3 w (d0 x) (d1 x y) (d2 x y z) 131
  have T1 := b1.tab hT
  have E1 : Hid _ := b1.eq
  have B1 : Hid _ := b1.bel
  have hc := b1.fam.zero
  have hst : Hid _ := hn_step x y z
  have hth : Hid _ := hn_three x y z
  have hle : Hid _ := hn_le x y z
  have hh0 := hn_nonneg x y z
  have hd0 := dig_nonneg x y z
  have hd1 : ∀ t, r3 (d0 x) (d1 x y) (d2 x y z) t ≤ 998244352 := fun t => by
    have := d0_bd x; have := d1_bd x y; have := d2_bd x y z
    unfold r3; split; omega; split <;> omega
  have hz : Hid (hn x y z 0 = 0) := rfl
  have hJ : Hid (∀ e, Joined x y z e = ((nm x y z ≤ 18446744073709551615 ∧ e = .returned (.tuple #[.int .u64 (nm x y z), .bool true])) ∨ (18446744073709551616 ≤ nm x y z ∧ e = .returned (.tuple #[.int .u64 0, .bool false])))) := fun _ => rfl
  clear b1 hT
  generalize nm x y z = NM at *
  generalize hn x y z = H at *
  generalize r3 (d0 x) (d1 x y) (d2 x y z) = D at *
  go_enter Tryd.func98, Tryd.ntmps98
  go_wp2_with fail
  rw [← E1.out]
  clear E1
  go_loopw [4, 11] (fun vn vi wr => wr = w1 ∧ ∃ i : Nat, i ≤ 3 ∧ vi = .int .i64 i ∧ vn = .int .u64 (H i) ∧ H i ≤ 18446744073709551615) (fun _ vi _ => 3 - (intOf vi).toNat)
  case atStart => exact ⟨rfl, 0, Nat.zero_le _, rfl, by rw [hz.out], by rw [hz.out]; omega⟩
  case round =>
    obtain ⟨rfl, i, hi, rfl, rfl, hHi⟩ := hrel
    by_cases hi3 : i < 3
    · obtain ⟨j, hj⟩ : ∃ j : Nat, i + j = 2 := ⟨2 - i, by omega⟩
      have hjI : (2 : Int) - (i : Int) = (j : Int) := by omega
      have hj3 : j < 3 := by omega
      have hs := hst.out i j hj
      have hcj := hc j hj3
      have hi0 := hh0 i
      have hp0 := (pr_bd (j : Int)).1
      have hp1 := (pr_bd (j : Int)).2
      have hdj := hd0 j
      have hdj1 := hd1 j
      have hm0 : 0 ≤ H i * pr (j : Int) := Int.mul_nonneg hi0 hp0
      have c1 : Hid _ := prime_any (j : Int) wr T1
      have c2 : Hid _ := mul64_any (H i) (pr (j : Int)) hi0 hp0 (by omega) (by omega) wr
      have hs' : Hid _ := hs
      clear hs hc
      generalize H i * pr (j : Int) = M at *
      generalize hXe : H (i + 1) = X at *
      have hX : Hid _ := hXe
      clear hXe
      by_cases hfit : X ≤ 18446744073709551615
      · have hq : M / 18446744073709551616 = 0 := by have := hs'.out; omega
        have hr : M % 18446744073709551616 = M := by have := hs'.out; omega
        have hsum : Hid (M + D j + 0 = X) := by have := hs'.out; show M + D j + 0 = X; omega
        rw [hq, hr] at c2
        have c3 : Hid _ := add64_run M (D j) 0 hm0 hdj (by omega) (by omega) wr
        have hq2 : X / 18446744073709551616 = 0 := by have := hs'.out; omega
        have hr2 : X % 18446744073709551616 = X := by have := hs'.out; omega
        rw [hsum.out, hq2, hr2] at c3
        clear hq hr hq2 hr2
        go_wp2_with fail
        refine Calls.mono (Hid.out c1) ?_; rintro e w' ⟨rfl, hw'⟩; subst w'
        go_wp2_with fail
        refine Calls.mono (Hid.out c2) ?_; rintro e w' ⟨rfl, hw'⟩; subst w'
        go_wp2_with (simp only [c3.out])
        go_roundw
        case rel => exact ⟨trivial, i + 1, by omega, by go_num, by rw [hX.out], by rw [hX.out]; exact hfit⟩
        case measure => simp [intOf]; omega
      · have hbig : Hid (18446744073709551616 ≤ NM) := by
          have := hle.out (i + 1) (by omega)
          rw [hX.out] at this
          show 18446744073709551616 ≤ NM; omega
        by_cases hM : M ≤ 18446744073709551615
        · have hq : M / 18446744073709551616 = 0 := by omega
          have hr : M % 18446744073709551616 = M := by omega
          have hsum : Hid (M + D j + 0 = X) := by have := hs'.out; show M + D j + 0 = X; omega
          rw [hq, hr] at c2
          have c3 : Hid _ := add64_run M (D j) 0 hm0 hdj (by omega) (by omega) wr
          have hq2 : X / 18446744073709551616 = 1 := by have := hs'.out; omega
          rw [hsum.out, hq2] at c3
          clear hq hr hq2
          go_wp2_with fail
          refine Calls.mono (Hid.out c1) ?_; rintro e w' ⟨rfl, hw'⟩; subst w'
          go_wp2_with fail
          refine Calls.mono (Hid.out c2) ?_; rintro e w' ⟨rfl, hw'⟩; subst w'
          go_wp2_with (simp only [c3.out])
          go_ret2
          refine ⟨?_, B1.out⟩
          rw [hJ.out]
          right
          exact ⟨hbig.out, rfl⟩
        · have hq : (M / 18446744073709551616 == 0) = false := beq_eq_false_iff_ne.2 (by omega)
          have hr0 : 0 ≤ M % 18446744073709551616 := by omega
          have c3 : Hid _ := add64_run (M % 18446744073709551616) (D j) 0 hr0 hdj (by omega) (by omega) wr
          generalize M / 18446744073709551616 = Q at *
          generalize M % 18446744073709551616 = R at *
          generalize (R + D j + 0) / 18446744073709551616 = Q2 at *
          generalize (R + D j + 0) % 18446744073709551616 = R2 at *
          go_wp2_with fail
          refine Calls.mono (Hid.out c1) ?_; rintro e w' ⟨rfl, hw'⟩; subst w'
          go_wp2_with fail
          refine Calls.mono (Hid.out c2) ?_; rintro e w' ⟨rfl, hw'⟩; subst w'
          go_wp2_with (simp only [c3.out])
          go_ret2
          refine ⟨?_, B1.out⟩
          rw [hJ.out]
          right
          exact ⟨hbig.out, rfl⟩
    · obtain rfl : i = 3 := by omega
      have hfin : Hid _ := hth.out
      go_wp2_with fail
      go_ret2
      refine ⟨?_, B1.out⟩
      rw [hJ.out]
      left
      rw [← hth.out]
      exact ⟨hHi, rfl⟩

end Go.Proofs.YtlogdjhnhnfbkaaDoor

namespace Go.Proofs.YtlogdjhnhnfbkaaDoor
open Go.RowKit Res

end Go.Proofs.YtlogdjhnhnfbkaaDoor

namespace Go.Proofs.YtlogdjhnhnfbkaaDoor
open Go.RowKit Res

end Go.Proofs.YtlogdjhnhnfbkaaDoor

namespace Go.Proofs.YtlogdjhnhnfbkaaDoor
open Go.RowKit Res

theorem inv1 : md 1 (998244353 ^ (pr 1 - 2).toNat) = 47450712 :=
  inv_unique (k := 1) (a := 998244353) (inv_right 1 998244353 (by decide) (by decide) (by decide)) (by decide) (md_nonneg _ _) (md_lt (by decide) _) (by decide) (by decide)
theorem inv2 : md 2 (339738624 ^ (pr 2 - 2).toNat) = 115990628 :=
  inv_unique (k := 2) (a := 339738624) (inv_right 2 339738624 (by decide) (by decide) (by decide)) (by decide) (md_nonneg _ _) (md_lt (by decide) _) (by decide) (by decide)

theorem d1_eq (x y : Int) : md 1 (md 1 (y - d0 x) * 47450712) = d1 x y := by
  rw [md1, md1]; unfold d1
  generalize d0 x = a
  omega
theorem d2_eq (x y z : Int) : md 2 (md 2 (z - md 2 (d0 x + md 2 (d1 x y * 998244353))) * 115990628) = d2 x y z := by
  rw [md2, md2, md2, md2]; unfold d2
  generalize d0 x = a
  generalize d1 x y = b
  omega

end Go.Proofs.YtlogdjhnhnfbkaaDoor

namespace Go.Proofs.YtlogdjhnhnfbkaaDoor
open Go.RowKit Res

theorem Joined.yes {x y z : Int} {e : Ending} (h : Joined x y z e) (hf : nm x y z ≤ 18446744073709551615) : e = .returned (.tuple #[.int .u64 (nm x y z), .bool true]) := by
  rcases h with ⟨_, h⟩ | ⟨h, _⟩
  · exact h
  · omega
theorem Joined.no {x y z : Int} {e : Ending} (h : Joined x y z e) (hf : 18446744073709551616 ≤ nm x y z) : e = .returned (.tuple #[.int .u64 0, .bool false]) := by
  rcases h with ⟨h, _⟩ | ⟨_, h⟩
  · omega
  · exact h
/-- A slice of n numbers: where there is one, it leads into a row of memory. -/
def Lies (w : World) (ao : Option Addr) (n : Nat) (L : Nat → Int) : Prop := 1 ≤ n → ∃ b o, ao = some ⟨b, o, none⟩ ∧ Fam w b o n L
theorem Lies.below {B : Nat} {w w' : World} {ao : Option Addr} {n : Nat} {L : Nat → Int} (h : Lies w ao n L) (hb : Below B w w') (hB : w.heap.size ≤ B) : Lies w' ao n L := fun hn => by
  obtain ⟨b, o, e, hf⟩ := h hn
  exact ⟨b, o, e, hf.below hb (Nat.lt_of_lt_of_le (hf.lt hn) hB)⟩
/-- A row of the call's own that is filled, while other blocks come. -/
structure Grow (w1 wr : World) (g n i : Nat) (L G : Nat → Int) : Prop where
  fam : Fam wr g 0 n (mix i L G)
  wrt : Wrt wr g 0 n
  bel : Below g w1 wr
  lt : g < wr.heap.size
theorem Grow.below {w1 wr w' : World} {g n i : Nat} {L G : Nat → Int} (h : Grow w1 wr g n i L G) (hb : Below wr.heap.size wr w') : Grow w1 w' g n i L G :=
  ⟨h.fam.below hb h.lt, h.wrt.below hb h.lt, h.bel.trans (hb.mono (Nat.le_of_lt h.lt)), Nat.lt_of_lt_of_le h.lt hb.size⟩
theorem Grow.step {w1 wr : World} {g n i : Nat} {L G : Nat → Int} (h : Grow w1 wr g n i L G) (hi : i < n) {x : Int} (hx : x = L i) : Grow w1 (wr.setCell ⟨g, i, none⟩ (.int .u64 x)) g n (i + 1) L G := by
  have hF := Fill.step (w1 := wr) ⟨h.fam, h.wrt, Wrote.refl _ _⟩ hi hx
  exact ⟨hF.fam, hF.wrt, h.bel.trans (hF.wrote.below (fun b o e => by omega)), by rw [hF.wrote.size]; exact h.lt⟩

/-- What Rows tells, of rows that are as many. -/
def RowsTold (w : World) (n : Nat) (N : Nat → Int) (e : Ending) (w' : World) : Prop :=
  ((∀ t, t < n → N t ≤ 18446744073709551615) ∧ ∃ g, e = .returned (.tuple #[.slice (some ⟨g, 0, none⟩) n n, .bool true]) ∧ w.heap.size ≤ g ∧ g < w'.heap.size ∧ Fam w' g 0 n N) ∨
  ((∃ t, t < n ∧ 18446744073709551616 ≤ N t) ∧ e = .returned (.tuple #[.slice none 0 0, .bool false]))

set_option maxHeartbeats 400000 in
theorem rows_b (ao bo co : Option Addr) (n m l ca cb cc : Nat) (hnm : m ≠ n) (w : World) :
    Calls Tryd.prog 91 #[.slice ao n ca, .slice bo m cb, .slice co l cc] w fun e w' => e = .returned (.tuple #[.slice none 0 0, .bool false]) ∧ w' = w := by
  have h1 : ((m : Int) == (n : Int)) = false := beq_eq_false_iff_ne.2 (by omega)
  go_enter Tryd.func91, Tryd.ntmps91
  go_wp2_with fail
  go_ret2
  exact ⟨rfl, rfl⟩

set_option maxHeartbeats 400000 in
theorem rows_c (ao bo co : Option Addr) (n l ca cb cc : Nat) (hnl : l ≠ n) (w : World) :
    Calls Tryd.prog 91 #[.slice ao n ca, .slice bo n cb, .slice co l cc] w fun e w' => e = .returned (.tuple #[.slice none 0 0, .bool false]) ∧ w' = w := by
  have h1 : ((l : Int) == (n : Int)) = false := beq_eq_false_iff_ne.2 (by omega)
  go_enter Tryd.func91, Tryd.ntmps91
  go_wp2_with fail
  go_ret2
  exact ⟨rfl, rfl⟩

set_option maxHeartbeats 2000000 in
theorem rows_any (ao bo co : Option Addr) (n ca cb cc : Nat) (hn : n ≤ 8192) (A B C : Nat → Int) (hA : ∀ t, 0 ≤ A t) (hB : ∀ t, 0 ≤ B t) (hC : ∀ t, 0 ≤ C t) (w : World) (hT : Tab w) (la : Lies w ao n A) (lb : Lies w bo n B) (lc : Lies w co n C) :
    Calls Tryd.prog 91 #[.slice ao n ca, .slice bo n cb, .slice co n cc] w fun e w' => RowsTold w n (fun t => nm (A t) (B t) (C t)) e w' ∧ Below w.heap.size w w' := by
  have c1 : Hid _ := inverses_any w hT
  have hself : ((n : Int) == (n : Int)) = true := beq_iff_eq.2 rfl
  have hlt := tab_lt hT
  have La : Hid _ := la
  have Lb : Hid _ := lb
  have Lc : Hid _ := lc
  clear la lb lc
  go_enter Tryd.func91, Tryd.ntmps91
  go_wp2_with fail
  refine Calls.mono (Hid.out c1) ?_; rintro e w1 ⟨rfl, b1⟩
  have T1 : Tab w1 := hT.below b1 hlt
  obtain ⟨w2, x2⟩ := box3 w1 1 47450712 115990628 131
  have E2 : Hid _ := x2.eq
  have hmk := run_make_row' (P := Tryd.prog) 82 49 (.int .u64 0) 8 Tryd.underlying82 infoU rfl .i64 .i64 n (by omega) (by omega)
  obtain ⟨w3, hw3⟩ : ∃ w3, w3 = w2.alloc (.cells (madeCells #[.int .u64 0] n) 49) := ⟨_, rfl⟩
  have E3 : Hid _ := hw3
  have b3 : Below w2.heap.size w2 w3 := by rw [hw3]; exact (Below.refl _ _).alloc (Nat.le_refl _) _
  have s3 : w2.heap.size < w3.heap.size := by rw [hw3]; show _ < (w2.heap.push _).size; simp
  have s2 : w1.heap.size < w2.heap.size := by have := x2.size; omega
  have s1 : w.heap.size ≤ w1.heap.size := b1.size
  have T3 : Tab w3 := (x2.tab T1).below b3 (tab_lt (x2.tab T1))
  have B12 : Below w.heap.size w w2 := b1.trans (x2.bel.mono b1.size)
  have B3 : Hid (Below w.heap.size w w3) := B12.trans (b3.mono (by omega))
  have Fi : Hid (Fam w3 w1.heap.size 0 3 (r3 1 47450712 115990628)) := x2.fam.below b3 s2
  have G0 : Hid (Grow w3 w3 w2.heap.size n 0 (fun t => nm (A t) (B t) (C t)) (fun _ => 0)) := ⟨by rw [mix_zero, hw3]; exact fam_made w2 n 49, by rw [hw3]; exact wrt_made w2 n 49, Below.refl _ _, s3⟩
  have La3 : Hid (Lies w3 ao n A) := Lies.below La.out B3.out (Nat.le_refl _)
  have Lb3 : Hid (Lies w3 bo n B) := Lies.below Lb.out B3.out (Nat.le_refl _)
  have Lc3 : Hid (Lies w3 co n C) := Lies.below Lc.out B3.out (Nat.le_refl _)
  have Ea : Hid (∀ b o, ao = some ⟨b, o, none⟩ → 1 ≤ n → b < w.heap.size) := fun b o e h => by
    obtain ⟨b', o', e', hf⟩ := La.out h
    rw [e] at e'; injection e' with e'; injection e' with e1 _ _
    rw [e1]; exact Fam.lt hf h
  have Eb : Hid (∀ b o, bo = some ⟨b, o, none⟩ → 1 ≤ n → b < w.heap.size) := fun b o e h => by
    obtain ⟨b', o', e', hf⟩ := Lb.out h
    rw [e] at e'; injection e' with e'; injection e' with e1 _ _
    rw [e1]; exact Fam.lt hf h
  have Ec : Hid (∀ b o, co = some ⟨b, o, none⟩ → 1 ≤ n → b < w.heap.size) := fun b o e h => by
    obtain ⟨b', o', e', hf⟩ := Lc.out h
    rw [e] at e'; injection e' with e'; injection e' with e1 _ _
    rw [e1]; exact Fam.lt hf h
  have H2 : Hid (w1.heap.size + 1 = w2.heap.size) := x2.size.symm
  clear hw3 b3 B12 x2 b1 T1 c1
  generalize hg1 : w1.heap.size = g1 at *
  have H1 : Hid (w1.heap.size = g1) := hg1
  clear hg1
  generalize w2.heap.size = g2 at *
  go_wp2_with fail
  rw [← E2.out, ← E3.out, H1.out, H2.out]
  clear E2 E3 H1 H2 hmk
  go_loopw [31] (fun vi wr => ∃ i : Nat, i ≤ n ∧ vi = .int .i64 i ∧ (∀ t, t < i → nm (A t) (B t) (C t) ≤ 18446744073709551615) ∧ Grow w3 wr g2 n i (fun t => nm (A t) (B t) (C t)) (fun _ => 0)) (fun vi _ => n - (intOf vi).toNat)
  case atStart => exact ⟨0, Nat.zero_le _, rfl, fun t h => by omega, G0.out⟩
  case round =>
    obtain ⟨i, hile, rfl, hall, hG⟩ := hrel
    have HG : Hid _ := hG
    have Hall : Hid _ := hall
    have Tr : Tab wr := T3.below hG.bel (by omega)
    have hszr := hG.lt
    by_cases hin : i < n
    · obtain ⟨ab, aof, rfl, fa⟩ := La3.out (by omega)
      obtain ⟨bb, bof, rfl, fb⟩ := Lb3.out (by omega)
      obtain ⟨cb', cof, rfl, fc⟩ := Lc3.out (by omega)
      have la := Ea.out _ _ rfl (by omega)
      have lb := Eb.out _ _ rfl (by omega)
      have lc := Ec.out _ _ rfl (by omega)
      have ka : wr.cell? ⟨ab, aof + i, none⟩ = some (.int .u64 (A i)) := (fa.below hG.bel (by omega)) i hin
      have kb : wr.cell? ⟨bb, bof + i, none⟩ = some (.int .u64 (B i)) := (fb.below hG.bel (by omega)) i hin
      have kc : wr.cell? ⟨cb', cof + i, none⟩ = some (.int .u64 (C i)) := (fc.below hG.bel (by omega)) i hin
      obtain ⟨k0, k1, k2⟩ := ((show Fam w3 g1 0 3 (r3 1 47450712 115990628) from Fi.out).below hG.bel s2).c3
      have la' : ab < wr.heap.size := by omega
      have lb' : bb < wr.heap.size := by omega
      have lc' : cb' < wr.heap.size := by omega
      have lg' : g1 < wr.heap.size := by omega
      have hAi := hA i
      have hBi := hB i
      have hCi := hC i
      have hinI : (i : Int) < (n : Int) := by omega
      have hi0 : (0 : Int) ≤ (i : Int) := by omega
      clear hG hall fa fb fc
      have hst : Hid (∀ w4 w5 : World, Below wr.heap.size wr w4 → Below w4.heap.size w4 w5 → Grow w3 w5 g2 n i (fun t => nm (A t) (B t) (C t)) (fun _ => 0)) := fun w4 w5 h4 h5 => (Grow.below HG.out h4).below h5
      by_cases hfit : nm (A i) (B i) (C i) ≤ 18446744073709551615
      · go_wp2_with fail
        go_region_held3 (fun w' => w'.cell? ⟨ab, aof + i, none⟩ = some (.int .u64 (A i)) ∧ w'.cell? ⟨bb, bof + i, none⟩ = some (.int .u64 (B i)) ∧ w'.cell? ⟨cb', cof + i, none⟩ = some (.int .u64 (C i)) ∧ w'.cell? ⟨g1, 0, none⟩ = some (.int .u64 1) ∧ w'.cell? ⟨g1, 1, none⟩ = some (.int .u64 47450712) ∧ w'.cell? ⟨g1, 2, none⟩ = some (.int .u64 115990628)) (go_keep)
          (first | (go_at_call 99; refine (digitsOf_any (A i) (B i) (C i) hAi hBi hCi _ ?hT).mono ?_; (case hT => exact Tr); rintro e w4 ⟨rfl, b4⟩; have b4' : Below wr.heap.size wr w4 := below_undrew b4; have T4 : Tab w4 := Tr.below b4' (tab_lt Tr); have ka4 : w4.cell? ⟨ab, aof + i, none⟩ = some (.int .u64 (A i)) := (b4'.cell (p := ⟨ab, aof + i, none⟩) la').trans ka; have kb4 : w4.cell? ⟨bb, bof + i, none⟩ = some (.int .u64 (B i)) := (b4'.cell (p := ⟨bb, bof + i, none⟩) lb').trans kb; have kc4 : w4.cell? ⟨cb', cof + i, none⟩ = some (.int .u64 (C i)) := (b4'.cell (p := ⟨cb', cof + i, none⟩) lc').trans kc; have k04 : w4.cell? ⟨g1, 0, none⟩ = some (.int .u64 1) := (b4'.cell (p := ⟨g1, 0, none⟩) lg').trans k0; have k14 : w4.cell? ⟨g1, 1, none⟩ = some (.int .u64 47450712) := (b4'.cell (p := ⟨g1, 1, none⟩) lg').trans k1; have k24 : w4.cell? ⟨g1, 2, none⟩ = some (.int .u64 115990628) := (b4'.cell (p := ⟨g1, 2, none⟩) lg').trans k2; have H4 : Hid (Below wr.heap.size wr w4) := b4'; clear b4 b4') | (go_at_call 98; refine (numberOf_any (A i) (B i) (C i) _ ?hT).mono ?_; (case hT => exact T4); rintro e w5 ⟨hJ, b5⟩; obtain rfl := hJ.yes hfit; clear hJ; have G5 : Hid (Grow w3 w5 g2 n i (fun t => nm (A t) (B t) (C t)) (fun _ => 0)) := hst.out w4 w5 H4.out b5; have z4 : wr.heap.size ≤ w4.heap.size := H4.out.size; have ka5 : w5.cell? ⟨ab, aof + i, none⟩ = some (.int .u64 (A i)) := (b5.cell (p := ⟨ab, aof + i, none⟩) (Nat.lt_of_lt_of_le la' z4)).trans ka4; have kb5 : w5.cell? ⟨bb, bof + i, none⟩ = some (.int .u64 (B i)) := (b5.cell (p := ⟨bb, bof + i, none⟩) (Nat.lt_of_lt_of_le lb' z4)).trans kb4; have kc5 : w5.cell? ⟨cb', cof + i, none⟩ = some (.int .u64 (C i)) := (b5.cell (p := ⟨cb', cof + i, none⟩) (Nat.lt_of_lt_of_le lc' z4)).trans kc4; have k05 : w5.cell? ⟨g1, 0, none⟩ = some (.int .u64 1) := (b5.cell (p := ⟨g1, 0, none⟩) (Nat.lt_of_lt_of_le lg' z4)).trans k04; have k15 : w5.cell? ⟨g1, 1, none⟩ = some (.int .u64 47450712) := (b5.cell (p := ⟨g1, 1, none⟩) (Nat.lt_of_lt_of_le lg' z4)).trans k14; have k25 : w5.cell? ⟨g1, 2, none⟩ = some (.int .u64 115990628) := (b5.cell (p := ⟨g1, 2, none⟩) (Nat.lt_of_lt_of_le lg' z4)).trans k24; clear b5))
        have G5' := (show Grow w3 w5 g2 n i (fun t => nm (A t) (B t) (C t)) (fun _ => 0) from G5.out)
        have hc5 := G5'.fam.zero i hin
        have hf5 := G5'.wrt.zero i hin
        have HS : Hid _ := G5'.step hin (x := nm (A i) (B i) (C i)) rfl
        have HA : Hid (∀ t, t < i + 1 → nm (A t) (B t) (C t) ≤ 18446744073709551615) := fun t ht => by
          by_cases e : t = i
          · rw [e]; exact hfit
          · exact Hall.out t (by omega)
        clear G5' ka ka4 ka5 kb kb4 kb5 kc kc4 kc5 k0 k04 k05 k1 k14 k15 k2 k24 k25
        go_wp2_with fail
        go_roundw
        case rel => exact ⟨i + 1, by omega, by go_num, HA.out, HS.out⟩
        case measure => simp [intOf]; omega
      · go_wp2_with fail
        go_region_held3 (fun w' => w'.cell? ⟨ab, aof + i, none⟩ = some (.int .u64 (A i)) ∧ w'.cell? ⟨bb, bof + i, none⟩ = some (.int .u64 (B i)) ∧ w'.cell? ⟨cb', cof + i, none⟩ = some (.int .u64 (C i)) ∧ w'.cell? ⟨g1, 0, none⟩ = some (.int .u64 1) ∧ w'.cell? ⟨g1, 1, none⟩ = some (.int .u64 47450712) ∧ w'.cell? ⟨g1, 2, none⟩ = some (.int .u64 115990628)) (go_keep)
          (first | (go_at_call 99; refine (digitsOf_any (A i) (B i) (C i) hAi hBi hCi _ ?hT).mono ?_; (case hT => exact Tr); rintro e w4 ⟨rfl, b4⟩; have b4' : Below wr.heap.size wr w4 := below_undrew b4; have T4 : Tab w4 := Tr.below b4' (tab_lt Tr); have ka4 : w4.cell? ⟨ab, aof + i, none⟩ = some (.int .u64 (A i)) := (b4'.cell (p := ⟨ab, aof + i, none⟩) la').trans ka; have kb4 : w4.cell? ⟨bb, bof + i, none⟩ = some (.int .u64 (B i)) := (b4'.cell (p := ⟨bb, bof + i, none⟩) lb').trans kb; have kc4 : w4.cell? ⟨cb', cof + i, none⟩ = some (.int .u64 (C i)) := (b4'.cell (p := ⟨cb', cof + i, none⟩) lc').trans kc; have k04 : w4.cell? ⟨g1, 0, none⟩ = some (.int .u64 1) := (b4'.cell (p := ⟨g1, 0, none⟩) lg').trans k0; have k14 : w4.cell? ⟨g1, 1, none⟩ = some (.int .u64 47450712) := (b4'.cell (p := ⟨g1, 1, none⟩) lg').trans k1; have k24 : w4.cell? ⟨g1, 2, none⟩ = some (.int .u64 115990628) := (b4'.cell (p := ⟨g1, 2, none⟩) lg').trans k2; have H4 : Hid (Below wr.heap.size wr w4) := b4'; clear b4 b4') | (go_at_call 98; refine (numberOf_any (A i) (B i) (C i) _ ?hT).mono ?_; (case hT => exact T4); rintro e w5 ⟨hJ, b5⟩; obtain rfl := hJ.no (by omega); clear hJ; have G5 : Hid (Grow w3 w5 g2 n i (fun t => nm (A t) (B t) (C t)) (fun _ => 0)) := hst.out w4 w5 H4.out b5; have z4 : wr.heap.size ≤ w4.heap.size := H4.out.size; have ka5 : w5.cell? ⟨ab, aof + i, none⟩ = some (.int .u64 (A i)) := (b5.cell (p := ⟨ab, aof + i, none⟩) (Nat.lt_of_lt_of_le la' z4)).trans ka4; have kb5 : w5.cell? ⟨bb, bof + i, none⟩ = some (.int .u64 (B i)) := (b5.cell (p := ⟨bb, bof + i, none⟩) (Nat.lt_of_lt_of_le lb' z4)).trans kb4; have kc5 : w5.cell? ⟨cb', cof + i, none⟩ = some (.int .u64 (C i)) := (b5.cell (p := ⟨cb', cof + i, none⟩) (Nat.lt_of_lt_of_le lc' z4)).trans kc4; have k05 : w5.cell? ⟨g1, 0, none⟩ = some (.int .u64 1) := (b5.cell (p := ⟨g1, 0, none⟩) (Nat.lt_of_lt_of_le lg' z4)).trans k04; have k15 : w5.cell? ⟨g1, 1, none⟩ = some (.int .u64 47450712) := (b5.cell (p := ⟨g1, 1, none⟩) (Nat.lt_of_lt_of_le lg' z4)).trans k14; have k25 : w5.cell? ⟨g1, 2, none⟩ = some (.int .u64 115990628) := (b5.cell (p := ⟨g1, 2, none⟩) (Nat.lt_of_lt_of_le lg' z4)).trans k24; clear b5))
        have B5 : Hid (Below w.heap.size w w5) := B3.out.trans ((Grow.bel (show Grow w3 w5 g2 n i (fun t => nm (A t) (B t) (C t)) (fun _ => 0) from G5.out)).mono (by omega))
        have HN : Hid (∃ t, t < n ∧ 18446744073709551616 ≤ nm (A t) (B t) (C t)) := ⟨i, hin, by omega⟩
        clear ka ka4 ka5 kb kb4 kb5 kc kc4 kc5 k0 k04 k05 k1 k14 k15 k2 k24 k25
        go_wp2_with fail
        go_ret2
        exact ⟨Or.inr ⟨HN.out, rfl⟩, B5.out⟩
    · obtain rfl : i = n := by omega
      have hfam : Hid (Fam wr g2 0 i (fun t => nm (A t) (B t) (C t))) := hG.fam.congr (fun t ht => mix_lo ht)
      have B5 : Hid (Below w.heap.size w wr) := B3.out.trans (hG.bel.mono (by omega))
      clear hG HG hall
      go_wp2_with fail
      go_ret2
      exact ⟨Or.inl ⟨Hall.out, g2, rfl, by omega, hszr, hfam.out⟩, B5.out⟩

end Go.Proofs.YtlogdjhnhnfbkaaDoor
