/- Contracts of the document's own answers of layer 3 (beagleref03): Parts, quotient, Mixed, Join. -/
import Derived.Test.YtlkooihjcdgcjaaDoorResInv
import Derived.Test.YtlkooihjcdgcjaaDoorBox
import Derived.Test.YtlkooihjcdgcjaaDoorCrtNum
import Derived.Deep.QuietTactic
import Derived.BigQuiet
namespace Go.Proofs.YtlkooihjcdgcjaaDoor
open Go.RowKit Res

set_option maxHeartbeats 1000000 in
theorem refParts_any (n : Int) (hn : 0 ≤ n) (w : World) :
    Calls Tryd.prog 19 #[.int .u64 n] w fun e w' => e = .returned (.agg #[.int .u64 (md 0 n), .int .u64 (md 1 n), .int .u64 (md 2 n)]) ∧ Below w.heap.size w w' := by
  rw [md0, md1, md2]
  obtain ⟨w1, b1⟩ := box3 w (n % 998244353) (n % 167772161) (n % 469762049) 23
  have E1 : Hid _ := b1.eq
  have B1 : Hid _ := b1.bel
  have F1 : Hid _ := b1.fam.c3
  have p0 : 0 ≤ n % 998244353 := by omega
  have p1 : n % 998244353 ≤ 998244353 := by omega
  have q0 : 0 ≤ n % 167772161 := by omega
  have q1 : n % 167772161 ≤ 998244353 := by omega
  have r0 : 0 ≤ n % 469762049 := by omega
  have r1 : n % 469762049 ≤ 998244353 := by omega
  clear b1
  go_enter Tryd.func19, Tryd.ntmps19
  go_wp2_with fail
  rw [← E1.out]
  refine bodyPost_ret (results_box3 rfl _ w1 w.heap.size _ _ _ rfl F1.out.1 F1.out.2.1 F1.out.2.2) rfl ?_
  exact ⟨rfl, B1.out⟩

theorem inv1 : md 1 (998244353 ^ (pr 1 - 2).toNat) = 47450712 :=
  inv_unique (k := 1) (a := 998244353) (inv_right 1 998244353 (by decide) (by decide) (by decide)) (by decide) (md_nonneg _ _) (md_lt (by decide) _) (by decide) (by decide)
theorem inv2 : md 2 (339738624 ^ (pr 2 - 2).toNat) = 115990628 :=
  inv_unique (k := 2) (a := 339738624) (inv_right 2 339738624 (by decide) (by decide) (by decide)) (by decide) (md_nonneg _ _) (md_lt (by decide) _) (by decide) (by decide)

set_option maxHeartbeats 400000 in
theorem quotient_any (k a b i : Int) (ha : 0 ≤ a) (hb : 0 ≤ b) (hz : md k b ≠ 0) (hi : md k (b ^ (pr k - 2).toNat) = i) (w : World) :
    Calls Tryd.prog 25 #[.int .i64 k, .int .u64 a, .int .u64 b] w fun e w' => e = .returned (.int .u64 (md k (a * i))) ∧ ∃ q, w' = w.drewN q := by
  have c1 : Hid _ := refInv_yes k b w hb hz
  have hi0 : 0 ≤ i := by rw [← hi]; exact md_nonneg _ _
  rw [hi] at c1
  clear hz hi
  go_enter Tryd.func25, Tryd.ntmps25
  go_wp2_with fail
  refine Calls.mono (Hid.out c1) ?_; rintro e w' ⟨rfl, q, hw'⟩; subst w'
  go_wp2_with fail
  refine Calls.mono (refMul_any k a i _ ha hi0) ?_; rintro e w' ⟨rfl, hw'⟩; subst w'
  go_wp2_with fail
  go_ret
  exact ⟨rfl, q, rfl⟩

theorem d1_eq (x y : Int) : md 1 (md 1 (y - d0 x) * 47450712) = d1 x y := by
  rw [md1, md1]; unfold d1
  generalize d0 x = a
  omega
theorem d2_eq (x y z : Int) : md 2 (md 2 (z - md 2 (d0 x + md 2 (d1 x y * 998244353))) * 115990628) = d2 x y z := by
  rw [md2, md2, md2, md2]; unfold d2
  generalize d0 x = a
  generalize d1 x y = b
  omega

set_option maxHeartbeats 1000000 in
theorem refMixed_any (x y z : Int) (hx : 0 ≤ x) (hy : 0 ≤ y) (hz : 0 ≤ z) (w : World) :
    Calls Tryd.prog 10 #[.agg #[.int .u64 x, .int .u64 y, .int .u64 z]] w fun e w' => e = .returned (.agg #[.int .u64 (d0 x), .int .u64 (d1 x y), .int .u64 (d2 x y z)]) ∧ Below w.heap.size w w' := by
  obtain ⟨w1, b1⟩ := box3 w x y z 23
  obtain ⟨w2, b2⟩ := box3 w1 0 0 0 23
  have E1 : Hid _ := b1.eq
  have E2 : Hid _ := b2.eq
  have s1 : w.heap.size < w1.heap.size := by have := b1.size; omega
  have B2 : Hid (Below w.heap.size w w2) := b1.bel.trans (b2.bel.mono b1.bel.size)
  obtain ⟨a0, a1, a2⟩ := (b1.fam.below b2.bel s1).c3
  obtain ⟨z0, z1, z2⟩ := b2.fam.c3
  obtain ⟨f0, f1, f2⟩ := b2.wrt.c3
  have FR : Hid (Fam w2 w1.heap.size 0 3 (r3 0 0 0)) := b2.fam
  have HS : Hid (w.heap.size + 1 = w1.heap.size) := b1.size.symm
  have e0 : x % 998244353 = d0 x := rfl
  have h0 := (d0_bd x).1
  have h1 := (d1_bd x y).1
  have p1 := (d0_bd x).2
  have c1 : Hid _ := refSub_any 1 y (d0 x) w2 hy h0
  have c2 : Hid _ := quotient_any 1 (md 1 (y - d0 x)) 998244353 47450712 (md_nonneg _ _) (by decide) (by decide) inv1 w2
  rw [d1_eq] at c2
  have hm0 := md_nonneg 2 (d1 x y * 998244353)
  have hm1 := md_nonneg 2 (d0 x + md 2 (d1 x y * 998244353))
  have c4 : Hid _ := fun (v : World) => quotient_any 2 (md 2 (z - md 2 (d0 x + md 2 (d1 x y * 998244353)))) 339738624 115990628 (md_nonneg _ _) (by decide) (by decide) inv2 v
  rw [d2_eq] at c4
  clear b1 b2
  generalize d2 x y z = D2 at *
  generalize d1 x y = D1 at *
  generalize d0 x = D0 at *
  generalize w1.heap.size = g at *
  go_enter Tryd.func10, Tryd.ntmps10
  go_wp2_with fail
  rw [← E1.out, ← E2.out, HS.out]
  clear E1 E2 HS
  go_wp2_with fail
  refine Calls.mono (Hid.out c1) ?_; rintro e w' ⟨rfl, hw'⟩; subst w'
  go_wp2_with fail
  refine Calls.mono (Hid.out c2) ?_; rintro e w3 ⟨rfl, q, hw3⟩
  have B3 : Hid (Below w.heap.size w w3) := by show Below _ _ _; rw [hw3]; exact below_drewN B2.out q
  have F3 : Hid (Fam w3 g 0 3 (r3 0 0 0)) := by show Fam _ _ _ _ _; rw [hw3]; exact FR.out
  have a0' : w3.cell? ⟨w.heap.size, 0, none⟩ = some (.int .u64 x) := by rw [hw3]; exact a0
  have a1' : w3.cell? ⟨w.heap.size, 1, none⟩ = some (.int .u64 y) := by rw [hw3]; exact a1
  have a2' : w3.cell? ⟨w.heap.size, 2, none⟩ = some (.int .u64 z) := by rw [hw3]; exact a2
  have g0 : w3.frozen? ⟨g, 0, none⟩ = false := by rw [hw3]; exact f0
  have g1 : w3.frozen? ⟨g, 1, none⟩ = false := by rw [hw3]; exact f1
  have g2 : w3.frozen? ⟨g, 2, none⟩ = false := by rw [hw3]; exact f2
  clear hw3 a0 a1 a2 z0 z1 z2 f0 f1 f2 c1 c2 B2 FR e0
  go_wp2_with fail
  go_quiet ((first | (go_at_call 28; exact Calls.quiet_of_same (refMul_any _ _ _ _ h1 (by decide))) | (go_at_call 27; exact Calls.quiet_of_same (refAdd_any _ _ _ _ h0 hm0)) | (go_at_call 26; exact Calls.quiet_of_same (refSub_any _ _ _ _ hz hm1))))
  go_wp2_with fail
  refine Calls.mono (refMul_any 2 998244353 167772161 _ (by decide) (by decide)) ?_; rintro e w' ⟨rfl, hw'⟩; subst w'
  rw [show md 2 (998244353 * 167772161) = 339738624 by decide]
  go_wp2_with fail
  refine Calls.mono (c4.out _) ?_; rintro e w5 ⟨rfl, q2, hw5⟩
  have B5 : Hid (Below w.heap.size w w5) := by show Below _ _ _; rw [hw5]; exact below_drewN (below_drewN B3.out _) q2
  have F5 : Hid (Fam w5 g 0 3 (r3 0 0 0)) := by show Fam _ _ _ _ _; rw [hw5]; exact F3.out
  have k0 : w5.frozen? ⟨g, 0, none⟩ = false := by rw [hw5]; exact g0
  have k1 : w5.frozen? ⟨g, 1, none⟩ = false := by rw [hw5]; exact g1
  have k2 : w5.frozen? ⟨g, 2, none⟩ = false := by rw [hw5]; exact g2
  obtain ⟨z0, z1, z2⟩ := (show Fam w5 g 0 3 (r3 0 0 0) from F5.out).c3
  clear hw5 a0' a1' a2' g0 g1 g2 c4 B3 F3
  go_wp2_with fail
  refine bodyPost_ret (results_set3 rfl _ w5 g D0 D1 D2 rfl F5.out) rfl ?_
  exact ⟨rfl, below_three B5.out (by omega) _ _ _⟩

set_option maxHeartbeats 1000000 in
theorem refJoin_any (x y z : Int) (hx : 0 ≤ x) (hy : 0 ≤ y) (hz : 0 ≤ z) (w : World) :
    Calls Tryd.prog 17 #[.agg #[.int .u64 x, .int .u64 y, .int .u64 z]] w fun e w' => Joined x y z e ∧ Below w.heap.size w w' := by
  obtain ⟨w1, b1⟩ := box3 w x y z 23
  have E1 : Hid _ := b1.eq
  have B1 : Hid (Below w.heap.size w w1) := b1.bel
  obtain ⟨a0, a1, a2⟩ := b1.fam.c3
  have c1 : Hid _ := refMixed_any x y z hx hy hz w1
  have HJ : Hid (∀ e, Joined x y z e = ((nm x y z ≤ 18446744073709551615 ∧ e = .returned (.tuple #[.int .u64 (nm x y z), .bool true])) ∨ (18446744073709551616 ≤ nm x y z ∧ e = .returned (.tuple #[.int .u64 0, .bool false])))) := fun _ => rfl
  have hN : Hid (nm x y z = d0 x + 998244353 * (d1 x y + 167772161 * d2 x y z)) := rfl
  obtain ⟨p0, p1⟩ := d0_bd x
  obtain ⟨q0, q1⟩ := d1_bd x y
  obtain ⟨r0, r1⟩ := d2_bd x y z
  clear b1
  generalize nm x y z = N at *
  generalize d2 x y z = D2 at *
  generalize d1 x y = D1 at *
  generalize d0 x = D0 at *
  go_enter Tryd.func17, Tryd.ntmps17
  go_wp2_with fail
  rw [← E1.out]
  clear E1
  refine Calls.mono (Hid.out c1) ?_; rintro e w2 ⟨rfl, b2⟩
  have B2 : Hid (Below w.heap.size w w2) := B1.out.trans (b2.mono B1.out.size)
  clear b2 c1 a0 a1 a2 B1
  obtain ⟨w3, b3⟩ := box3 w2 D0 D1 D2 23
  have E3 : Hid _ := b3.eq
  have B3 : Hid (Below w.heap.size w w3) := B2.out.trans (b3.bel.mono B2.out.size)
  clear b3 B2
  by_cases hbig : 18479187002 < D2 * 167772161 + D1
  · have hlt : Hid (18446744073709551616 ≤ N) := by show _ ≤ N; rw [hN.out]; omega
    go_wp2_with fail
    rw [← E3.out]
    go_ret2
    refine ⟨?_, B3.out⟩
    rw [HJ.out]; right; exact ⟨hlt.out, rfl⟩
  · by_cases hb2 : 18446744073709551615 - (D2 * 167772161 + D1) * 998244353 < D0
    · have hlt : Hid (18446744073709551616 ≤ N) := by show _ ≤ N; rw [hN.out]; omega
      go_wp2_with fail
      rw [← E3.out]
      go_ret2
      refine ⟨?_, B3.out⟩
      rw [HJ.out]; right; exact ⟨hlt.out, rfl⟩
    · have hlt : Hid (N ≤ 18446744073709551615) := by show N ≤ _; rw [hN.out]; omega
      have hN2 : Hid ((D2 * 167772161 + D1) * 998244353 + D0 = N) := by show _ = N; rw [hN.out]; omega
      go_wp2_with fail
      rw [← E3.out]
      go_ret2
      refine ⟨?_, B3.out⟩
      rw [HJ.out]; left; rw [← hN2.out]; exact ⟨by rw [hN2.out]; exact hlt.out, rfl⟩
end Go.Proofs.YtlkooihjcdgcjaaDoor
