/- Contract of crt.digitsOf. -/
import Derived.Test.YtcppcfbcgopmoaaDoorBox
import Derived.CellFam
import Derived.Deep.QuietTactic
import Derived.BigQuiet
import Derived.RegionTactic
import Derived.BigRegion
import Derived.Deep.RegionWith
namespace Go.Proofs.YtcppcfbcgopmoaaDoor
open Go.RowKit Res

set_option maxHeartbeats 2000000 in
theorem digitsOf_any (x y z : Int) (hx : 0 ≤ x) (hy : 0 ≤ y) (hz : 0 ≤ z) (w : World) (hT : Tab w) :
    Calls Tryd.prog 39 #[.agg #[.int .u64 x, .int .u64 y, .int .u64 z], .agg #[.int .u64 1, .int .u64 47450712, .int .u64 115990628]] w fun e w' => e = .returned (.agg #[.int .u64 (d0 x), .int .u64 (d1 x y), .int .u64 (d2 x y z)]) ∧ Below w.heap.size w w' := by
  obtain ⟨w1, b1⟩ := box3 w x y z 51
  obtain ⟨w2, b2⟩ := box3 w1 1 47450712 115990628 51
  obtain ⟨w3, b3⟩ := box3 w2 0 0 0 51
  obtain ⟨w4, b4⟩ := box3 w3 0 0 0 51
  have T4 := b4.tab (b3.tab (b2.tab (b1.tab hT)))
  have hlt := tab_lt hT
  have E1 : Hid _ := b1.eq
  have E2 : Hid _ := b2.eq
  have E3 : Hid _ := b3.eq
  have E4 : Hid _ := b4.eq
  have s1 : w.heap.size < w1.heap.size := by have := b1.size; omega
  have s2 : w1.heap.size < w2.heap.size := by have := b2.size; omega
  have s3 : w2.heap.size < w3.heap.size := by have := b3.size; omega
  have C12 : Below w1.heap.size w1 w4 := b2.bel.trans ((b3.bel.trans (b4.bel.mono b3.bel.size)).mono b2.bel.size)
  have C23 : Below w2.heap.size w2 w4 := b3.bel.trans (b4.bel.mono b3.bel.size)
  have B4 : Hid (Below w.heap.size w w4) := b1.bel.trans (C12.mono b1.bel.size)
  have Fz : Hid (Fam w4 w.heap.size 0 3 (r3 x y z)) := b1.fam.below C12 s1
  have Fi : Hid (Fam w4 w1.heap.size 0 3 (r3 1 47450712 115990628)) := b2.fam.below C23 s2
  have Fr : Hid (Fam w4 w2.heap.size 0 3 (r3 0 0 0)) := b3.fam.below b4.bel s3
  have Wr : Hid (Wrt w4 w2.heap.size 0 3) := b3.wrt.below b4.bel s3
  have F0 : Hid (Fill w4 w4 w3.heap.size 3 0 (r3 (d0 x) (d1 x y) (d2 x y z)) (r3 0 0 0)) := Fill.start _ b4.fam b4.wrt
  have H1 : Hid (w.heap.size + 1 = w1.heap.size) := b1.size.symm
  have H2 : Hid (w1.heap.size + 1 = w2.heap.size) := b2.size.symm
  have H3 : Hid (w2.heap.size + 1 = w3.heap.size) := b3.size.symm
  have hdg : Hid _ := digit x y z
  have hD0 := dig_nonneg x y z
  have hZ0 := r3_nonneg hx hy hz
  have hI0 := r3_nonneg (x := 1) (y := 47450712) (z := 115990628) (by omega) (by omega) (by omega)
  have hret : Hid (r3 (d0 x) (d1 x y) (d2 x y z) 0 = d0 x ∧ r3 (d0 x) (d1 x y) (d2 x y z) 1 = d1 x y ∧ r3 (d0 x) (d1 x y) (d2 x y z) 2 = d2 x y z) := ⟨rfl, rfl, rfl⟩
  clear b1 b2 b3 b4 hT C12 C23
  generalize w1.heap.size = g1 at *
  generalize w2.heap.size = g2 at *
  generalize w3.heap.size = g3 at *
  go_enter Tryd.func39, Tryd.ntmps39
  go_wp2_with fail
  rw [← E1.out, ← E2.out, ← E3.out, ← E4.out, H1.out, H2.out, H3.out]
  clear E1 E2 E3 E4 H1 H2 H3
  generalize r3 (d0 x) (d1 x y) (d2 x y z) = D at *
  generalize r3 1 47450712 115990628 = I at *
  generalize r3 x y z = Z at *
  go_loopw [10] (fun vk wr => ∃ k : Nat, k ≤ 3 ∧ vk = .int .i64 k ∧ Fill w4 wr g3 3 k D (r3 0 0 0)) (fun vk _ => 3 - (intOf vk).toNat)
  case atStart => exact ⟨0, Nat.zero_le _, rfl, F0.out⟩
  case round =>
    rename World => wo
    obtain ⟨k, hk, rfl, hF⟩ := hrel
    have HF : Hid _ := hF
    have Tr : Tab wo := T4.wrote hF.wrote (fun o e => by omega)
    by_cases hk3 : k < 3
    · have hc : ∀ t, t < k → wo.cell? ⟨g3, t, none⟩ = some (.int .u64 (D t)) := fun t ht => by
        have := hF.fam.zero t (by omega)
        rwa [mix_lo ht] at this
      have hzc : Hid (wo.cell? ⟨w.heap.size, k, none⟩ = some (.int .u64 (Z k))) := (hF.wrote.fam Fz.out (fun t _ e => by omega)).zero k hk3
      have hic : Hid (wo.cell? ⟨g1, k, none⟩ = some (.int .u64 (I k))) := (hF.wrote.fam Fi.out (fun t _ e => by omega)).zero k hk3
      have hdg' : Hid _ := hdg.out k hk3
      have hah : ∀ i, 0 ≤ ah D k i := ah_nonneg D k
      have hahs : Hid (∀ i j : Nat, i + j + 1 = k → md k (md k (ah D k i * pr (j : Int)) + D j) = ah D k (i + 1)) := fun i j h => by
        obtain rfl : j = k - 1 - i := by omega
        have : ((k - 1 - i : Nat) : Int) = (k : Int) - 1 - (i : Int) := by omega
        rw [this]; rfl
      have hah0 : Hid (ah D k 0 = 0) := rfl
      have Hc : Hid _ := hc
      clear hF hc
      go_wp2_with fail
      go_loopw [7, 14] (fun vp vi wx => ∃ i : Nat, i ≤ k ∧ vi = .int .i64 i ∧ vp = .int .u64 (ah D k i) ∧ ∃ q, wx = wo.drewN q) (fun _ vi _ => k - (intOf vi).toNat)
      case atStart => exact ⟨0, Nat.zero_le _, rfl, by rw [hah0.out], 0, rfl⟩
      case round =>
        obtain ⟨i, hi, rfl, rfl, q, hwx⟩ := hrel
        have HW : Hid (wr = wo.drewN q) := hwx
        have T7 : Tab wr := by rw [hwx]; exact Tr
        have ha0 := hah i
        by_cases hik : i < k
        · obtain ⟨j, hj⟩ : ∃ j : Nat, i + j + 1 = k := ⟨k - 1 - i, by omega⟩
          have hjI : (k : Int) - 1 - (i : Int) = (j : Int) := by omega
          have hcj : wr.cell? ⟨g3, j, none⟩ = some (.int .u64 (D j)) := by rw [hwx]; exact Hc.out j (by omega)
          have hs : Hid _ := hahs.out i j hj
          have hp0 := (pr_bd (j : Int)).1
          have hm0 := md_nonneg k (ah D k i * pr (j : Int))
          have hdj := hD0 j
          have hj3 : (j : Int) < 3 := by omega
          have hj0 : (0 : Int) ≤ (j : Int) := by omega
          clear hwx hj
          go_wp2_with fail
          go_quiet ((first | (go_at_call 40; exact Calls.quiet_of_same (prime_any _ _ T7)) | (go_at_call 35; exact Calls.quiet_of_same (mul_any _ _ _ _ T7 ha0 hp0)) | (go_at_call 48; exact Calls.quiet_of_same (add_any _ _ _ _ T7 hm0 hdj))))
          go_wp2_with fail
          go_roundw
          case rel =>
            refine ⟨i + 1, by omega, by go_num, by rw [hs.out], q + nq, ?_⟩
            rw [HW.out]
            exact World.drewN_drewN _ _ _
          case measure => simp [intOf]; omega
        · obtain rfl : i = k := by omega
          have hzc' : wr.cell? ⟨w.heap.size, i, none⟩ = some (.int .u64 (Z i)) := by rw [hwx]; exact hzc.out
          have hic' : wr.cell? ⟨g1, i, none⟩ = some (.int .u64 (I i)) := by rw [hwx]; exact hic.out
          have HF7 : Hid (Fill w4 wr g3 3 i D (r3 0 0 0)) := by show Fill w4 wr g3 3 i D (r3 0 0 0); rw [hwx]; exact HF.out.drewN q
          have hcc := HF7.out.fam.zero i hk3
          have hww := HF7.out.wrt.zero i hk3
          have hZi := hZ0 i
          have hIi := hI0 i
          have hm0 := md_nonneg i (Z i - ah D i i)
          have hi3 : (i : Int) < 3 := by omega
          have hi0 : (0 : Int) ≤ (i : Int) := by omega
          clear hwx HF Hc hahs hah hah0 hzc hic
          go_wp2_with fail
          go_region_with (first | (go_at_call 49; refine (sub_any _ _ _ _ ?hT hZi ha0).mono ?_; (case hT => exact T7); rintro e w' ⟨rfl, hw'⟩; subst w') | (go_at_call 35; refine (mul_any _ _ _ _ ?hT hm0 hIi).mono ?_; (case hT => exact T7); rintro e w' ⟨rfl, hw'⟩; subst w'))
          all_goals
            go_wp2_with fail
            go_roundw
            case rel => exact ⟨i + 1, by omega, by go_num, (HF7.out.step hk3 hdg'.out).drew⟩
            case measure => simp [intOf]; omega
    · obtain rfl : k = 3 := by omega
      obtain ⟨q0, q1, q2⟩ := (hF.fin (Nat.le_refl 3)).three
      have hbel : Hid (Below w.heap.size w wo) := B4.out.trans (hF.wrote.below (fun b o e => by omega))
      have FZ : Hid (Fam wo g2 0 3 (r3 0 0 0)) := hF.wrote.fam Fr.out (fun t _ e => by omega)
      obtain ⟨z0, z1, z2⟩ := FZ.out.three
      have hwr := (hF.wrote.wrt Wr.out).zero
      have f0 := hwr 0 (by omega)
      have f1 := hwr 1 (by omega)
      have f2 := hwr 2 (by omega)
      rw [hret.out.1] at q0
      rw [hret.out.2.1] at q1
      rw [hret.out.2.2] at q2
      clear hF HF hwr
      go_wp2_with fail
      refine bodyPost_ret (results_set3 rfl _ wo g2 (d0 x) (d1 x y) (d2 x y z) rfl FZ.out) rfl ?_
      exact ⟨rfl, below_three hbel.out (by omega) _ _ _⟩
end Go.Proofs.YtcppcfbcgopmoaaDoor
