/- The walk of 'beaglelaw03.CrtJoins': it answers true; nothing that was there is turned. For the statement's proof. -/
import Derived.OpenShut
import Derived.ProofKit
import Derived.Test.YtlkooihjcdgcjaaDoorCrtAlive
import Derived.Test.YtlkooihjcdgcjaaDoorArr
import Derived.Test.YtlkooihjcdgcjaaDoorLead
namespace Go.Proofs.YtlkooihjcdgcjaaDoor.crtJoins
open Go.ChangeShapes Go.WideShapes Go.ChangeAt Go.RowKit Res
set_option linter.unusedVariables false

set_option maxHeartbeats 2000000 in
theorem walk (x y z : Int) (w : World) (w0 : (Lit.int .u64 x).wf = true) (w1 : (Lit.int .u64 y).wf = true) (w2 : (Lit.int .u64 z).wf = true) (hT : Tab w) :
    Calls Tryd.prog 4 #[.agg #[.int .u64 x, .int .u64 y, .int .u64 z]] w fun e w' => e = .returned (.bool true) ∧ Below w.heap.size w w' := by
  obtain ⟨hx0, hx1⟩ := bounds_u64 w0
  obtain ⟨hy0, hy1⟩ := bounds_u64 w1
  obtain ⟨hz0, hz1⟩ := bounds_u64 w2
  clear w0 w1 w2
  obtain ⟨v1, b1⟩ := box3 w x y z 23
  have T1 := b1.tab hT
  have E1 : Hid _ := b1.eq
  have B1 : Hid (Below w.heap.size w v1) := b1.bel
  have F1 : Hid (Fam v1 w.heap.size 0 3 (r3 x y z)) := b1.fam
  have s1 : w.heap.size < v1.heap.size := by have := b1.size; omega
  obtain ⟨a0, a1, a2⟩ := b1.fam.c3
  have c1 : Hid _ := join_any x y z hx0 hy0 hz0 v1 T1
  have c2 : Hid _ := fun (v : World) => refJoin_any x y z hx0 hy0 hz0 v
  have q0 : Hid (md 0 (nm x y z) = md 0 x) := nm_res0 x y z
  have q1 : Hid (md 1 (nm x y z) = md 1 y) := nm_res1 x y z
  have q2 : Hid (md 2 (nm x y z) = md 2 z) := nm_res2 x y z
  have hn0 := nm_nonneg x y z
  clear b1 hT
  go_enter Tryd.func4, Tryd.ntmps4
  go_wp2_with fail
  rw [← E1.out]
  clear E1
  refine Calls.mono (Hid.out c1) ?_; rintro e v2 ⟨hJ, b2⟩
  have T2 : Tab v2 := T1.below b2 (tab_lt T1)
  have B2 : Hid (Below w.heap.size w v2) := B1.out.trans (b2.mono B1.out.size)
  have F2 : Hid (Fam v2 w.heap.size 0 3 (r3 x y z)) := Fam.below F1.out b2 s1
  have s2 : w.heap.size < v2.heap.size := Nat.lt_of_lt_of_le s1 b2.size
  obtain ⟨k0, k1, k2⟩ := (show Fam v2 w.heap.size 0 3 (r3 x y z) from F2.out).c3
  clear b2 B1 F1 c1 T1 a0 a1 a2
  by_cases hfit : nm x y z ≤ 18446744073709551615
  · obtain rfl := hJ.yes hfit
    clear hJ
    go_wp2_with fail
    refine Calls.mono (c2.out v2) ?_; rintro e v3 ⟨hJ, b3⟩
    obtain rfl := hJ.yes hfit
    clear hJ
    have T3 : Tab v3 := T2.below b3 (tab_lt T2)
    have B3 : Hid (Below w.heap.size w v3) := B2.out.trans (b3.mono B2.out.size)
    have F3 : Hid (Fam v3 w.heap.size 0 3 (r3 x y z)) := Fam.below F2.out b3 s2
    have s3 : w.heap.size < v3.heap.size := Nat.lt_of_lt_of_le s2 b3.size
    have c3 : Hid _ := parts_any (nm x y z) hn0 v3 T3
    rw [q0.out, q1.out, q2.out] at c3
    clear b3 B2 F2 c2 T2 k0 k1 k2
    go_wp2_with fail
    refine Calls.mono (Hid.out c3) ?_; rintro e v4 ⟨rfl, b4⟩
    have T4 : Tab v4 := T3.below b4 (tab_lt T3)
    have B4 : Hid (Below w.heap.size w v4) := B3.out.trans (b4.mono B3.out.size)
    have F4 : Hid (Fam v4 w.heap.size 0 3 (r3 x y z)) := Fam.below F3.out b4 s3
    have s4 : w.heap.size < v4.heap.size := Nat.lt_of_lt_of_le s3 b4.size
    clear b4 B3 F3 c3 T3
    obtain ⟨v5, b5⟩ := box3 v4 (md 0 x) (md 1 y) (md 2 z) 23
    have T5 := b5.tab T4
    have E5 : Hid _ := b5.eq
    have B5 : Hid (Below w.heap.size w v5) := B4.out.trans (b5.bel.mono B4.out.size)
    have s5 : v4.heap.size < v5.heap.size := by have := b5.size; omega
    have F5 : Hid (Fam v5 w.heap.size 0 3 (r3 x y z)) := Fam.below F4.out b5.bel s4
    have P5 : Hid (Fam v5 v4.heap.size 0 3 (r3 (md 0 x) (md 1 y) (md 2 z))) := b5.fam
    obtain ⟨k0, k1, k2⟩ := (show Fam v5 w.heap.size 0 3 (r3 x y z) from F5.out).c3
    obtain ⟨p0, p1, p2⟩ := b5.fam.c3
    clear b5 F4 T4
    have s5' : w.heap.size < v5.heap.size := by omega
    obtain ⟨g4, hg4⟩ : ∃ g, g = v4.heap.size := ⟨_, rfl⟩
    have G4 : Hid (v4.heap.size = g4) := hg4.symm
    rw [← hg4] at s5 s4 P5 p0 p1 p2
    clear hg4
    go_wp2_with fail
    rw [← E5.out, G4.out]
    clear E5 G4 q0 q1 q2
    go_region_held3 (fun w' => w'.cell? ⟨w.heap.size, 0, none⟩ = some (.int .u64 x) ∧ w'.cell? ⟨w.heap.size, 1, none⟩ = some (.int .u64 y) ∧ w'.cell? ⟨w.heap.size, 2, none⟩ = some (.int .u64 z) ∧ w'.cell? ⟨g4, 0, none⟩ = some (.int .u64 (md 0 x)) ∧ w'.cell? ⟨g4, 1, none⟩ = some (.int .u64 (md 1 y)) ∧ w'.cell? ⟨g4, 2, none⟩ = some (.int .u64 (md 2 z))) (go_keep)
      (first | (go_at_call 15; refine (alive_any _ ?hT).mono ?_; (case hT => exact T5); rintro e v6 ⟨rfl, b6⟩; have b6' : Below v5.heap.size v5 v6 := below_undrew b6; have T6 : Tab v6 := T5.below b6' (tab_lt T5); have B6 : Hid (Below w.heap.size w v6) := B5.out.trans (b6'.mono B5.out.size); obtain ⟨l0, l1, l2⟩ := (Fam.below (show Fam v5 w.heap.size 0 3 (r3 x y z) from F5.out) b6' s5').c3; obtain ⟨m0, m1, m2⟩ := (Fam.below (show Fam v5 g4 0 3 (r3 (md 0 x) (md 1 y) (md 2 z)) from P5.out) b6' s5).c3; clear b6 b6') | (go_at_call 14; refine (of_any _ _ _ ?hT ?h0).mono ?_; (case hT => exact T6); (case h0 => assumption); rintro e w' ⟨rfl, hw'⟩; subst w'))
    all_goals
      go_wp2_with fail
      go_ret
      exact ⟨rfl, B6.out⟩
  · obtain rfl := hJ.no (by omega)
    clear hJ
    go_wp2_with fail
    refine Calls.mono (c2.out v2) ?_; rintro e v3 ⟨hJ, b3⟩
    obtain rfl := hJ.no (by omega)
    clear hJ
    have T3 : Tab v3 := T2.below b3 (tab_lt T2)
    have B3 : Hid (Below w.heap.size w v3) := B2.out.trans (b3.mono B2.out.size)
    have F3 : Hid (Fam v3 w.heap.size 0 3 (r3 x y z)) := Fam.below F2.out b3 s2
    have s3 : w.heap.size < v3.heap.size := Nat.lt_of_lt_of_le s2 b3.size
    have c3 : Hid _ := parts_any 0 (by decide) v3 T3
    rw [md_zero, md_zero, md_zero] at c3
    clear b3 B2 F2 c2 T2 k0 k1 k2
    go_wp2_with fail
    refine Calls.mono (Hid.out c3) ?_; rintro e v4 ⟨rfl, b4⟩
    have T4 : Tab v4 := T3.below b4 (tab_lt T3)
    have B4 : Hid (Below w.heap.size w v4) := B3.out.trans (b4.mono B3.out.size)
    have F4 : Hid (Fam v4 w.heap.size 0 3 (r3 x y z)) := Fam.below F3.out b4 s3
    have s4 : w.heap.size < v4.heap.size := Nat.lt_of_lt_of_le s3 b4.size
    clear b4 B3 F3 c3 T3
    obtain ⟨v5, b5⟩ := box3 v4 0 0 0 23
    have T5 := b5.tab T4
    have E5 : Hid _ := b5.eq
    have B5 : Hid (Below w.heap.size w v5) := B4.out.trans (b5.bel.mono B4.out.size)
    have s5 : v4.heap.size < v5.heap.size := by have := b5.size; omega
    have F5 : Hid (Fam v5 w.heap.size 0 3 (r3 x y z)) := Fam.below F4.out b5.bel s4
    have P5 : Hid (Fam v5 v4.heap.size 0 3 (r3 0 0 0)) := b5.fam
    obtain ⟨k0, k1, k2⟩ := (show Fam v5 w.heap.size 0 3 (r3 x y z) from F5.out).c3
    obtain ⟨p0, p1, p2⟩ := b5.fam.c3
    clear b5 F4 T4
    have s5' : w.heap.size < v5.heap.size := by omega
    obtain ⟨g4, hg4⟩ : ∃ g, g = v4.heap.size := ⟨_, rfl⟩
    have G4 : Hid (v4.heap.size = g4) := hg4.symm
    rw [← hg4] at s5 s4 P5 p0 p1 p2
    clear hg4
    go_wp2_with fail
    rw [← E5.out, G4.out]
    clear E5 G4 q0 q1 q2
    refine wp_region_lead (by kernel_rfl) (by kernel_rfl) (by kernel_rfl) (by kernel_rfl) (by rfl) ?_
    intro K hK
    go_simp
    refine Calls.mono (alive_any _ T5) ?_; rintro e v6 ⟨rfl, b6⟩
    have B6 : Hid (Below w.heap.size w v6) := B5.out.trans ((below_undrew b6).mono B5.out.size)
    clear b6
    refine hK _ _ ?_
    clear hK K
    repeat (go_big_quiet_step (fail))
    refine wpQuiet_nil ?_
    intro _ hw'
    obtain ⟨nq, rfl⟩ := hw'
    go_wp2_with fail
    go_ret
    exact ⟨rfl, below_drewN B6.out nq⟩

end Go.Proofs.YtlkooihjcdgcjaaDoor.crtJoins
