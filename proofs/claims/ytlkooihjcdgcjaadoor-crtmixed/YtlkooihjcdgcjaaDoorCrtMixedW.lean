/- The walk of 'beaglelaw03.CrtMixed': it answers true; nothing that was there is turned. For the statement's proof. -/
import Derived.OpenShut
import Derived.ProofKit
import Derived.Test.YtlkooihjcdgcjaaDoorCrtAlive
import Derived.Test.YtlkooihjcdgcjaaDoorArr
namespace Go.Proofs.YtlkooihjcdgcjaaDoor.crtMixed
open Go.ChangeShapes Go.WideShapes Go.ChangeAt Go.RowKit Res
set_option linter.unusedVariables false

theorem mixed_res (x y z : Int) (k : Nat) (hk : k < 3) : md k (d0 x + md k (md k (d1 x y + md k (d2 x y z * pr 1)) * pr 0)) = md k (r3 x y z k) := by
  have e : md k (d0 x + md k (md k (d1 x y + md k (d2 x y z * pr 1)) * pr 0)) = md k (nm x y z) := by
    have i : md k (md k (d1 x y + md k (d2 x y z * pr 1)) * pr 0) = md k ((d1 x y + d2 x y z * pr 1) * pr 0) := by rw [md_add_r, md_mul_l]
    rw [i, md_add_r, pr0, pr1]
    congr 1
    unfold nm; omega
  rw [e]
  match k, hk with
  | 0, _ => exact nm_res0 x y z
  | 1, _ => exact nm_res1 x y z
  | 2, _ => exact nm_res2 x y z
theorem dig_lt (x y z : Int) (k : Nat) (hk : k < 3) : r3 (d0 x) (d1 x y) (d2 x y z) k < pr k := by
  match k, hk with
  | 0, _ => exact (d0_bd x).2
  | 1, _ => exact (d1_bd x y).2
  | 2, _ => exact (d2_bd x y z).2
set_option maxHeartbeats 2000000 in
theorem walk (x y z : Int) (w : World) (w0 : (Lit.int .u64 x).wf = true) (w1 : (Lit.int .u64 y).wf = true) (w2 : (Lit.int .u64 z).wf = true) (hT : Tab w) :
    Calls Tryd.prog 3 #[.agg #[.int .u64 x, .int .u64 y, .int .u64 z]] w fun e w' => e = .returned (.bool true) ∧ Below w.heap.size w w' := by
  obtain ⟨hx0, hx1⟩ := bounds_u64 w0
  obtain ⟨hy0, hy1⟩ := bounds_u64 w1
  obtain ⟨hz0, hz1⟩ := bounds_u64 w2
  clear w0 w1 w2
  obtain ⟨v1, b1⟩ := box3 w x y z 23
  have T1 := b1.tab hT
  have E1 : Hid _ := b1.eq
  have B1 : Hid (Below w.heap.size w v1) := b1.bel
  have F1 : Hid (Fam v1 w.heap.size 0 3 (r3 x y z)) := b1.fam
  have s1 : w.heap.size < v1.heap.size := by have := b1.size; omega
  obtain ⟨a0, a1, a2⟩ := b1.fam.c3
  have c1 : Hid _ := mixed_any x y z hx0 hy0 hz0 v1 T1
  have hres : Hid _ := mixed_res x y z
  have hlt : Hid _ := dig_lt x y z
  obtain ⟨p0, _⟩ := d0_bd x
  obtain ⟨p1, _⟩ := d1_bd x y
  obtain ⟨p2, _⟩ := d2_bd x y z
  have hd0 := dig_nonneg x y z
  have hz0' := r3_nonneg hx0 hy0 hz0
  have al : Hid _ := alive_any
  clear b1 hT
  go_enter Tryd.func3, Tryd.ntmps3
  go_wp2_with fail
  rw [← E1.out]
  clear E1
  refine Calls.mono (Hid.out c1) ?_; rintro e v2 ⟨rfl, b2⟩
  have T2 : Tab v2 := T1.below b2 (tab_lt T1)
  have B2 : Hid (Below w.heap.size w v2) := B1.out.trans (b2.mono B1.out.size)
  have F2 : Hid (Fam v2 w.heap.size 0 3 (r3 x y z)) := Fam.below F1.out b2 s1
  have s2 : w.heap.size < v2.heap.size := Nat.lt_of_lt_of_le s1 b2.size
  clear b2 B1 F1 c1 T1 a0 a1 a2
  obtain ⟨v3, b3⟩ := box3 v2 (d0 x) (d1 x y) (d2 x y z) 23
  have T3 := b3.tab T2
  have E3 : Hid _ := b3.eq
  have B3 : Hid (Below w.heap.size w v3) := B2.out.trans (b3.bel.mono B2.out.size)
  have s3 : v2.heap.size < v3.heap.size := by have := b3.size; omega
  have F3 : Hid (Fam v3 w.heap.size 0 3 (r3 x y z)) := Fam.below F2.out b3.bel s2
  have P3 : Hid (Fam v3 v2.heap.size 0 3 (r3 (d0 x) (d1 x y) (d2 x y z))) := b3.fam
  obtain ⟨q0, q1, q2⟩ := b3.fam.c3
  obtain ⟨a0, a1, a2⟩ := (show Fam v3 w.heap.size 0 3 (r3 x y z) from F3.out).c3
  clear b3 F2 T2 B2
  obtain ⟨g2, hg2⟩ : ∃ g, g = v2.heap.size := ⟨_, rfl⟩
  have G2 : Hid (v2.heap.size = g2) := hg2.symm
  rw [← hg2] at s2 s3 P3 q0 q1 q2
  clear hg2
  go_wp2_with fail
  rw [← E3.out, G2.out]
  clear E3 G2
  go_region_held3 (fun w' => w'.cell? ⟨g2, 0, none⟩ = some (.int .u64 (d0 x)) ∧ w'.cell? ⟨g2, 1, none⟩ = some (.int .u64 (d1 x y)) ∧ w'.cell? ⟨g2, 2, none⟩ = some (.int .u64 (d2 x y z)) ∧ w'.cell? ⟨w.heap.size, 0, none⟩ = some (.int .u64 x) ∧ w'.cell? ⟨w.heap.size, 1, none⟩ = some (.int .u64 y) ∧ w'.cell? ⟨w.heap.size, 2, none⟩ = some (.int .u64 z)) (go_keep)
    (first | (go_at_call 10; refine (refMixed_any x y z hx0 hy0 hz0 _).mono ?_; rintro e v4 ⟨rfl, b4⟩; have b4' : Below v3.heap.size v3 v4 := below_undrew b4; have T4 : Tab v4 := T3.below b4' (tab_lt T3); have B4 : Hid (Below w.heap.size w v4) := B3.out.trans (b4'.mono B3.out.size); have F4 : Hid (Fam v4 w.heap.size 0 3 (r3 x y z)) := Fam.below (show Fam v3 w.heap.size 0 3 (r3 x y z) from F3.out) b4' (by omega); have P4 : Hid (Fam v4 g2 0 3 (r3 (d0 x) (d1 x y) (d2 x y z))) := Fam.below (show Fam v3 g2 0 3 (r3 (d0 x) (d1 x y) (d2 x y z)) from P3.out) b4' s3; obtain ⟨m0, m1, m2⟩ := (show Fam v4 g2 0 3 (r3 (d0 x) (d1 x y) (d2 x y z)) from P4.out).c3; obtain ⟨l0, l1, l2⟩ := (show Fam v4 w.heap.size 0 3 (r3 x y z) from F4.out).c3; clear b4 b4'))
  generalize r3 x y z = Z at *
  generalize hDe : r3 (d0 x) (d1 x y) (d2 x y z) = D at *
  have HD : Hid _ := hDe
  clear hDe
  generalize d2 x y z = D2 at *
  generalize d1 x y = D1 at *
  generalize d0 x = D0 at *
  clear B3 F3 P3 a0 a1 a2 q0 q1 q2 T3 HD l0 l1 l2
  have M0 : Hid _ := m0
  have M1 : Hid _ := m1
  have M2 : Hid _ := m2
  clear m0 m1 m2
  go_wp2_with fail
  go_loopw [12] (fun vk wx => ∃ k : Nat, k ≤ 3 ∧ vk = .int .i64 k ∧ ∃ q, wx = v4.drewN q) (fun vk _ => 3 - (intOf vk).toNat)
  case atStart => exact ⟨0, Nat.zero_le _, rfl, 0, rfl⟩
  case round =>
    obtain ⟨k, hk, rfl, q, hwx⟩ := hrel
    have HW : Hid (wr = v4.drewN q) := hwx
    have Tr : Tab wr := by rw [hwx]; exact T4
    by_cases hk3 : k < 3
    · have P4' : Fam wr g2 0 3 D := by rw [hwx]; exact P4.out
      have F4' : Fam wr w.heap.size 0 3 Z := by rw [hwx]; exact F4.out
      have k0 : wr.cell? ⟨g2, 0, none⟩ = some (.int .u64 D0) := by rw [hwx]; exact M0.out
      have k1 : wr.cell? ⟨g2, 1, none⟩ = some (.int .u64 D1) := by rw [hwx]; exact M1.out
      have k2 : wr.cell? ⟨g2, 2, none⟩ = some (.int .u64 D2) := by rw [hwx]; exact M2.out
      have kd := P4'.zero k hk3
      have kz := F4'.zero k hk3
      have hdk := hd0 k
      have hzk := hz0' k
      have hlt1 : D k < pr (k : Int) := hlt.out k hk3
      have hgeq : decide (pr (k : Int) ≤ D k) = false := decide_eq_false (by omega)
      have hr := hres.out k hk3
      have hk0I : (0 : Int) ≤ (k : Int) := by omega
      have hk3I : (k : Int) < 3 := by omega
      have hp1 := (pr_bd 1).1
      have hp0 := (pr_bd 0).1
      have hA := md_nonneg k (D2 * pr 1)
      have hB := md_nonneg k (D1 + md k (D2 * pr 1))
      have hC := md_nonneg k (md k (D1 + md k (D2 * pr 1)) * pr 0)
      have heq : (md k (D0 + md k (md k (D1 + md k (D2 * pr 1)) * pr 0)) == md k (Z k)) = true := beq_iff_eq.2 hr
      have hr' : Hid _ := hr
      clear hwx P4' F4' hr
      go_wp2_with fail
      go_quiet ((first | (go_at_call 13; exact Calls.quiet_of_same (prime_any _ _ Tr)) | (go_at_call 12; exact Calls.quiet_of_same (mul_any _ _ _ _ Tr p2 hp1)) | (go_at_call 11; exact Calls.quiet_of_same (add_any _ _ _ _ Tr p1 hA))))
      obtain ⟨wx, hwx2⟩ : ∃ wx, wx = wr.drewN nq := ⟨_, rfl⟩
      have Tx : Tab wx := by rw [hwx2]; exact Tr
      have HX : Hid (wx = wr.drewN nq) := hwx2
      have x0 : wx.cell? ⟨g2, 0, none⟩ = some (.int .u64 D0) := by rw [hwx2]; exact k0
      have xd : wx.cell? ⟨g2, k, none⟩ = some (.int .u64 (D k)) := by rw [hwx2]; exact kd
      have xz : wx.cell? ⟨w.heap.size, k, none⟩ = some (.int .u64 (Z k)) := by rw [hwx2]; exact kz
      rw [← hwx2]
      clear hwx2
      go_wp2_with fail
      go_quiet ((first | (go_at_call 13; exact Calls.quiet_of_same (prime_any _ _ Tx)) | (go_at_call 12; exact Calls.quiet_of_same (mul_any _ _ _ _ Tx hB hp0)) | (go_at_call 11; exact Calls.quiet_of_same (add_any _ _ _ _ Tx p0 hC)) | (go_at_call 14; exact Calls.quiet_of_same (of_any _ _ _ Tx hzk))))
      go_wp2_with fail
      go_roundw
      case rel =>
        rw [HX.out, HW.out, World.drewN_drewN, World.drewN_drewN]
        exact ⟨k + 1, by omega, by go_num, _, rfl⟩
      case measure => simp [intOf]; omega
    · have c5 : Hid _ := al.out wr Tr
      have B5 : Hid (Below w.heap.size w wr) := by show Below _ _ _; rw [hwx]; exact below_drewN B4.out q
      clear hwx
      go_wp2_with fail
      refine Calls.mono (Hid.out c5) ?_; rintro e v6 ⟨rfl, b6⟩
      have B6 : Hid (Below w.heap.size w v6) := B5.out.trans (b6.mono B5.out.size)
      clear b6
      go_wp2_with fail
      go_ret
      exact ⟨rfl, B6.out⟩

end Go.Proofs.YtlkooihjcdgcjaaDoor.crtMixed
