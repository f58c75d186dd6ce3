/- The walk of 'beaglelaw03.CrtBack': it answers true; nothing that was there is turned. For the statement's proof. -/
import Derived.OpenShut
import Derived.ProofKit
import Derived.Test.YtlkooihjcdgcjaaDoorCrtAlive
import Derived.Test.YtlkooihjcdgcjaaDoorArr
import Derived.Test.YtlkooihjcdgcjaaDoorLead
namespace Go.Proofs.YtlkooihjcdgcjaaDoor.crtBack
open Go.ChangeShapes Go.WideShapes Go.ChangeAt Go.RowKit Res
set_option linter.unusedVariables false

theorem md_more (k a c : Int) : md k (md k a + c * pr k) = md k a := by
  rw [md_add_l]
  by_cases h : pr k = 0
  · rw [md_none h, md_none h]
  · rw [md_some h, md_some h, Int.add_mul_emod_self_right]
set_option maxHeartbeats 2000000 in
theorem walk (n x y z : Int) (w : World) (wn : (Lit.int .u64 n).wf = true) (w0 : (Lit.int .u64 x).wf = true) (w1 : (Lit.int .u64 y).wf = true) (w2 : (Lit.int .u64 z).wf = true) (hT : Tab w) :
    Calls Tryd.prog 5 #[.int .u64 n, .agg #[.int .u64 x, .int .u64 y, .int .u64 z]] w fun e w' => e = .returned (.bool true) ∧ Below w.heap.size w w' := by
  obtain ⟨hn0, hn1⟩ := bounds_u64 wn
  obtain ⟨hx0, hx1⟩ := bounds_u64 w0
  obtain ⟨hy0, hy1⟩ := bounds_u64 w1
  obtain ⟨hz0, hz1⟩ := bounds_u64 w2
  clear wn w0 w1 w2
  obtain ⟨v1, b1⟩ := box3 w x y z 23
  have T1 := b1.tab hT
  have E1 : Hid _ := b1.eq
  have B1 : Hid (Below w.heap.size w v1) := b1.bel
  have F1 : Hid (Fam v1 w.heap.size 0 3 (r3 x y z)) := b1.fam
  have s1 : w.heap.size < v1.heap.size := by have := b1.size; omega
  have c1 : Hid _ := parts_any n hn0 v1 T1
  clear b1 hT
  go_enter Tryd.func5, Tryd.ntmps5
  go_wp2_with fail
  rw [← E1.out]
  clear E1
  refine Calls.mono (Hid.out c1) ?_; rintro e v2 ⟨rfl, b2⟩
  have T2 : Tab v2 := T1.below b2 (tab_lt T1)
  have B2 : Hid (Below w.heap.size w v2) := B1.out.trans (b2.mono B1.out.size)
  have F2 : Hid (Fam v2 w.heap.size 0 3 (r3 x y z)) := Fam.below F1.out b2 s1
  have s2 : w.heap.size < v2.heap.size := Nat.lt_of_lt_of_le s1 b2.size
  clear b2 B1 F1 c1 T1
  obtain ⟨v3, b3⟩ := box3 v2 (md 0 n) (md 1 n) (md 2 n) 23
  have T3 := b3.tab T2
  have E3 : Hid _ := b3.eq
  have B3 : Hid (Below w.heap.size w v3) := B2.out.trans (b3.bel.mono B2.out.size)
  have s3 : v2.heap.size < v3.heap.size := by have := b3.size; omega
  have F3 : Hid (Fam v3 w.heap.size 0 3 (r3 x y z)) := Fam.below F2.out b3.bel s2
  have P3 : Hid (Fam v3 v2.heap.size 0 3 (r3 (md 0 n) (md 1 n) (md 2 n))) := b3.fam
  obtain ⟨p0, p1, p2⟩ := b3.fam.c3
  have T2' := T2
  clear b3 F2 T2 B2
  obtain ⟨g2, hg2⟩ : ∃ g, g = v2.heap.size := ⟨_, rfl⟩
  have G2 : Hid (v2.heap.size = g2) := hg2.symm
  rw [← hg2] at s2 s3 P3 p0 p1 p2
  clear hg2
  go_wp2_with fail
  rw [← E3.out, G2.out]
  clear E3 G2
  go_region_held3 (fun w' => w'.cell? ⟨g2, 0, none⟩ = some (.int .u64 (md 0 n)) ∧ w'.cell? ⟨g2, 1, none⟩ = some (.int .u64 (md 1 n)) ∧ w'.cell? ⟨g2, 2, none⟩ = some (.int .u64 (md 2 n))) (go_keep)
    (first | (go_at_call 19; refine (refParts_any n hn0 _).mono ?_; rintro e v4 ⟨rfl, b4⟩; have b4' : Below v3.heap.size v3 v4 := below_undrew b4; have T4 : Tab v4 := T3.below b4' (tab_lt T3); have B4 : Hid (Below w.heap.size w v4) := B3.out.trans (b4'.mono B3.out.size); have F4 : Hid (Fam v4 w.heap.size 0 3 (r3 x y z)) := Fam.below (show Fam v3 w.heap.size 0 3 (r3 x y z) from F3.out) b4' (by omega); have P4 : Hid (Fam v4 g2 0 3 (r3 (md 0 n) (md 1 n) (md 2 n))) := Fam.below (show Fam v3 g2 0 3 (r3 (md 0 n) (md 1 n) (md 2 n)) from P3.out) b4' s3; obtain ⟨m0, m1, m2⟩ := (show Fam v4 g2 0 3 (r3 (md 0 n) (md 1 n) (md 2 n)) from P4.out).c3; have s4 : g2 < v4.heap.size := Nat.lt_of_lt_of_le s3 b4'.size; clear b4 b4'))
  obtain ⟨v5, b5⟩ := box3 v4 (md 0 n) (md 1 n) (md 2 n) 23
  have E5 : Hid _ := b5.eq
  have T5 : Tab v5 := b5.tab T4
  have B5 : Hid (Below w.heap.size w v5) := B4.out.trans (b5.bel.mono B4.out.size)
  have s5 : v4.heap.size < v5.heap.size := by have := b5.size; omega
  have F5 : Hid (Fam v5 w.heap.size 0 3 (r3 x y z)) := Fam.below (show Fam v4 w.heap.size 0 3 (r3 x y z) from F4.out) b5.bel (by omega)
  have P5 : Hid (Fam v5 g2 0 3 (r3 (md 0 n) (md 1 n) (md 2 n))) := Fam.below (show Fam v4 g2 0 3 (r3 (md 0 n) (md 1 n) (md 2 n)) from P4.out) b5.bel s4
  obtain ⟨Qf, hQf⟩ : ∃ Qf : Nat → Int, ∀ k : Nat, Qf k = r3 (md 0 n) (md 1 n) (md 2 n) k + r3 x y z k % 1000000 * pr k := ⟨_, fun _ => rfl⟩
  have L0 : Hid (Fill v5 v5 v4.heap.size 3 0 Qf (r3 (md 0 n) (md 1 n) (md 2 n))) := Fill.start _ b5.fam b5.wrt
  have hlt := tab_lt T2'
  clear b5 F4 P4 B4 T4 m0 m1 m2 p0 p1 p2
  obtain ⟨g4, hg4⟩ : ∃ g, g = v4.heap.size := ⟨_, rfl⟩
  have G4 : Hid (v4.heap.size = g4) := hg4.symm
  rw [← hg4] at s5 L0 s4
  clear hg4
  have hmk : ∀ k : Nat, 0 ≤ r3 (md 0 n) (md 1 n) (md 2 n) k ∧ r3 (md 0 n) (md 1 n) (md 2 n) k ≤ 998244352 := fun k => by
    have := md_nonneg 0 n; have := md_nonneg 1 n; have := md_nonneg 2 n; have := md_le 0 n; have := md_le 1 n; have := md_le 2 n
    unfold r3; split; omega; split <;> omega
  have hzk : ∀ k : Nat, 0 ≤ r3 x y z k := r3_nonneg hx0 hy0 hz0
  have HQ : Hid _ := hQf
  clear hQf
  have key : Hid (nm (Qf 0) (Qf 1) (Qf 2) = n) := nm_back hn0 (by omega) (by rw [HQ.out]; exact md_more 0 n _) (by rw [HQ.out]; exact md_more 1 n _) (by rw [HQ.out]; exact md_more 2 n _)
  have keyp : Hid (nm (md 0 n) (md 1 n) (md 2 n) = n) := nm_back hn0 (by omega) (md_md _ _) (md_md _ _) (md_md _ _)
  have hq0 : Hid (∀ k, 0 ≤ Qf k) := fun k => by
    rw [HQ.out k]
    have := Int.mul_nonneg (Int.emod_nonneg (r3 x y z k) (by omega : (1000000 : Int) ≠ 0)) (pr_bd k).1
    have := (hmk k).1
    omega
  have ca : Hid _ := fun (v : World) (hv : Tab v) => join_any (md 0 n) (md 1 n) (md 2 n) (md_nonneg _ _) (md_nonneg _ _) (md_nonneg _ _) v hv
  have cb : Hid _ := fun (v : World) (hv : Tab v) => join_any (Qf 0) (Qf 1) (Qf 2) (hq0.out 0) (hq0.out 1) (hq0.out 2) v hv
  have al : Hid _ := alive_any
  go_wp2_with fail
  rw [← E5.out, G4.out]
  clear E5 G4
  go_loopw [19] (fun vk wr => ∃ k : Nat, k ≤ 3 ∧ vk = .int .i64 k ∧ Fill v5 wr g4 3 k Qf (r3 (md 0 n) (md 1 n) (md 2 n))) (fun vk _ => 3 - (intOf vk).toNat)
  case atStart => exact ⟨0, Nat.zero_le _, rfl, L0.out⟩
  case round =>
    obtain ⟨k, hk, rfl, hF⟩ := hrel
    have HF : Hid _ := hF
    have Tr : Tab wr := T5.wrote hF.wrote (fun o e => by omega)
    by_cases hk3 : k < 3
    · have hc : wr.cell? ⟨g4, k, none⟩ = some (.int .u64 (r3 (md 0 n) (md 1 n) (md 2 n) k)) := by
        have := hF.fam.zero k hk3
        rwa [mix_hi (Nat.le_refl k)] at this
      have hf := hF.wrt.zero k hk3
      have hz : wr.cell? ⟨w.heap.size, k, none⟩ = some (.int .u64 (r3 x y z k)) := (hF.wrote.fam (show Fam v5 w.heap.size 0 3 (r3 x y z) from F5.out) (fun t _ e => by omega)).zero k hk3
      have hst : Hid (∀ X, X = Qf k → Fill v5 (wr.setCell ⟨g4, k, none⟩ (.int .u64 X)) g4 3 (k + 1) Qf (r3 (md 0 n) (md 1 n) (md 2 n))) := fun X hX => hF.step hk3 hX
      have hX : Hid (r3 (md 0 n) (md 1 n) (md 2 n) k + r3 x y z k % 1000000 * pr k = Qf k) := (HQ.out k).symm
      have hm0 := (hmk k).1
      have hm1 := (hmk k).2
      have hp0 := (pr_bd (k : Int)).1
      have hp1 := (pr_bd (k : Int)).2
      have hzk0 := hzk k
      have hr0 : 0 ≤ r3 x y z k % 1000000 := Int.emod_nonneg _ (by omega)
      have hr1 : r3 x y z k % 1000000 ≤ 999999 := by omega
      have hM0 : 0 ≤ r3 x y z k % 1000000 * pr (k : Int) := Int.mul_nonneg hr0 hp0
      have hM1 : r3 x y z k % 1000000 * pr (k : Int) ≤ 999999 * 998244353 := Int.mul_le_mul hr1 hp1 hp0 (by omega)
      have hk0I : (0 : Int) ≤ (k : Int) := by omega
      have hk3I : (k : Int) < 3 := by omega
      clear hF HF
      generalize r3 (md 0 n) (md 1 n) (md 2 n) k = X at *
      generalize r3 x y z k = Y at *
      go_wp2_with fail
      go_region_with ((go_at_call 13; refine (prime_any _ _ ?hT).mono ?_; (case hT => exact Tr); rintro e w' ⟨rfl, hw'⟩; subst w'))
      all_goals
        go_wp2_with fail
        go_roundw
        case rel => exact ⟨k + 1, by omega, by go_num, (hst.out _ hX.out).drew⟩
        case measure => simp [intOf]; omega
    · obtain rfl : k = 3 := by omega
      have FQ : Hid (Fam wr g4 0 3 Qf) := hF.fin (Nat.le_refl 3)
      have B6 : Hid (Below w.heap.size w wr) := B5.out.trans (hF.wrote.below (fun b o e => by omega))
      have FP : Hid (Fam wr g2 0 3 (r3 (md 0 n) (md 1 n) (md 2 n))) := hF.wrote.fam (show Fam v5 g2 0 3 (r3 (md 0 n) (md 1 n) (md 2 n)) from P5.out) (fun t _ e => by omega)
      obtain ⟨k0, k1, k2⟩ := (show Fam wr g2 0 3 (r3 (md 0 n) (md 1 n) (md 2 n)) from FP.out).c3
      have sr : g4 < wr.heap.size := by rw [hF.wrote.size]; exact s5
      have c1 : Hid _ := ca.out wr Tr
      clear hF HF hmk hzk ca
      go_wp2_with fail
      refine Calls.mono (Hid.out c1) ?_; rintro e w6 ⟨hJ, b6⟩
      obtain rfl := hJ.yes (by rw [keyp.out]; exact hn1)
      rw [keyp.out]
      have T6 : Tab w6 := Tr.below b6 (tab_lt Tr)
      have B7 : Hid (Below w.heap.size w w6) := B6.out.trans (b6.mono B6.out.size)
      have F6 : Hid (Fam w6 g4 0 3 Qf) := Fam.below FQ.out b6 sr
      obtain ⟨l0, l1, l2⟩ := Fam.three (show Fam w6 g4 0 3 Qf from F6.out)
      have c2 : Hid _ := cb.out w6 T6
      clear hJ b6 B6 c1 cb k0 k1 k2
      go_wp2_with fail
      refine Calls.mono (Hid.out c2) ?_; rintro e w7 ⟨hJ, b7⟩
      obtain rfl := hJ.yes (by rw [key.out]; exact hn1)
      rw [key.out]
      have T7 : Tab w7 := T6.below b7 (tab_lt T6)
      have B8 : Hid (Below w.heap.size w w7) := B7.out.trans (b7.mono B7.out.size)
      have c3 : Hid _ := al.out w7 T7
      have hself : (n == n) = true := beq_iff_eq.2 rfl
      clear hJ b7 B7 c2 l0 l1 l2 al
      go_wp2_with fail
      refine Calls.mono (Hid.out c3) ?_; rintro e w8 ⟨rfl, b8⟩
      have B9 : Hid (Below w.heap.size w w8) := B8.out.trans (b8.mono B8.out.size)
      clear b8 c3
      go_wp2_with fail
      go_ret
      exact ⟨rfl, B9.out⟩

end Go.Proofs.YtlkooihjcdgcjaaDoor.crtBack
