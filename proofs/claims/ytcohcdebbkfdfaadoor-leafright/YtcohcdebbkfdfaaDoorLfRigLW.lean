/- The walk of 'beaglelaw07.LeafRight': it answers true; nothing that was there is turned. For the statement's proof. -/
import Derived.OpenShut
import Derived.ProofKit
import Derived.Test.YtcohcdebbkfdfaaDoorLfLaw
namespace Go.Proofs.YtcohcdebbkfdfaaDoor.leafRight
open Go.ChangeShapes Go.WideShapes Go.ChangeAt Go.RowKit Cls
set_option linter.unusedVariables false

set_option maxHeartbeats 4000000 in
theorem walk (ao : Option Addr) (n cap : Nat) (P : Nat → Nat → Bool) (K : Int) (w : World) (hp : Lp w ao n P) (hT : TabB w) :
    Calls Tryd.prog 3 #[.agg #[.slice ao n cap, .int .i64 K]] w fun e w' => e = .returned (.bool true) ∧ Below w.heap.size w w' := by
  obtain ⟨w1, b1⟩ := lbox w (.slice ao n cap) (.int .i64 K)
  have E1 : Hid _ := b1.eq
  have B1 : Hid (Below w.heap.size w w1) := b1.bel
  have T1 : Hid (TabB w1) := hT.grow b1.bel
  have c0 := b1.c0
  have c1 := b1.c1
  have CA : Hid _ := fun (v : World) (hv : TabB v) => alive07_any v hv
  by_cases hn : n ≤ 100
  · have TT : Hid (Lw w w1 w.heap.size ao n cap P K) := ⟨b1.bel, ⟨b1.c0, b1.c1⟩, (hp.grow b1.bel).lf hn, T1.out⟩
    have CF : Hid _ := few07_any n cap ao K w1 hp.small true (by simp [hn])
    obtain ⟨r, hr⟩ : ∃ r, rgt P n K = r := ⟨_, rfl⟩
    obtain ⟨p, hpl⟩ : ∃ p, pln P n = p := ⟨_, rfl⟩
    obtain ⟨b, hb⟩ : ∃ b, bnd P n = b := ⟨_, rfl⟩
    have CR : Hid _ := fun (v : World) (hv : Lf v ao n P) => right_any P n cap ao K v hv
    have CS : Hid _ := fun (v : World) (hv : Lf v ao n P) => refRight_any P n cap ao K v hv
    have CP : Hid _ := fun (v : World) (ht : TabB v) (hv : Lf v ao n P) => plain_any P n cap ao K v ht hv
    have CQ : Hid _ := fun (v : World) (hv : Lf v ao n P) => refPlain_any P n cap ao K v hv
    have CB : Hid _ := fun (v : World) (hv : Lf v ao n P) => bound_any P n cap ao K v hv
    have CC : Hid _ := fun (v : World) (hv : Lf v ao n P) => refBound_any P n cap ao K v hv
    rw [hr] at CR CS
    rw [hpl] at CP CQ
    rw [hb] at CB CC
    have er : (r == r) = true := by simp
    have ep : (p == p) = true := by simp
    clear b1 hT hp hr hpl hb T1 B1
    go_enter Tryd.func3, Tryd.ntmps3
    go_wp2_with (first | rw [← E1.out])
    clear E1
    refine Calls.mono (Hid.out CF) ?_; rintro e w2 ⟨rfl, b2⟩
    have TB : Hid (Lw w w2 w.heap.size ao n cap P K) := Lw.grow TT.out b2
    clear b2 TT CF c0 c1
    have TT : Hid (Lw w w2 w.heap.size ao n cap P K) := TB.out
    clear TB
    obtain ⟨c0, c1⟩ := TT.out.c
    go_wp2_with fail
    go_region_held3 (fun w' => w'.cell? ⟨w.heap.size, 0, none⟩ = some (.slice ao n cap) ∧ w'.cell? ⟨w.heap.size, 1, none⟩ = some (.int .i64 K)) (go_keep)
      (first
        | (go_at_call 10; (refine Calls.mono (CA.out _ TT.out.tab) ?_); rintro e vk ⟨rfl, bb⟩; have TB : Hid (Lw w vk w.heap.size ao n cap P K) := Lw.grow TT.out (by first | exact undrew bb | exact bb); clear bb TT c0 c1; have TT : Hid (Lw w vk w.heap.size ao n cap P K) := TB.out; clear TB; obtain ⟨c0, c1⟩ := TT.out.c)
        | (go_at_call 11; (with_reducible refine Calls.mono (CR.out _ TT.out.l) ?_); rintro e vk ⟨rfl, bb⟩; have TB : Hid (Lw w vk w.heap.size ao n cap P K) := Lw.grow TT.out (by first | exact undrew bb | exact bb); clear bb TT c0 c1; have TT : Hid (Lw w vk w.heap.size ao n cap P K) := TB.out; clear TB; obtain ⟨c0, c1⟩ := TT.out.c)
        | (go_at_call 12; (with_reducible refine Calls.mono (CS.out _ TT.out.l) ?_); rintro e vk ⟨rfl, bb⟩; have TB : Hid (Lw w vk w.heap.size ao n cap P K) := Lw.grow TT.out (by first | exact undrew bb | exact bb); clear bb TT c0 c1; have TT : Hid (Lw w vk w.heap.size ao n cap P K) := TB.out; clear TB; obtain ⟨c0, c1⟩ := TT.out.c)
        | (go_at_call 13; (with_reducible refine Calls.mono (CP.out _ TT.out.tab TT.out.l) ?_); rintro e vk ⟨rfl, bb⟩; have TB : Hid (Lw w vk w.heap.size ao n cap P K) := Lw.grow TT.out (by first | exact undrew bb | exact bb); clear bb TT c0 c1; have TT : Hid (Lw w vk w.heap.size ao n cap P K) := TB.out; clear TB; obtain ⟨c0, c1⟩ := TT.out.c)
        | (go_at_call 14; (with_reducible refine Calls.mono (CQ.out _ TT.out.l) ?_); rintro e vk ⟨rfl, bb⟩; have TB : Hid (Lw w vk w.heap.size ao n cap P K) := Lw.grow TT.out (by first | exact undrew bb | exact bb); clear bb TT c0 c1; have TT : Hid (Lw w vk w.heap.size ao n cap P K) := TB.out; clear TB; obtain ⟨c0, c1⟩ := TT.out.c)
        | (go_at_call 15; (with_reducible refine Calls.mono (CB.out _ TT.out.l) ?_); rintro e vk ⟨rfl, bb⟩; have TB : Hid (Lw w vk w.heap.size ao n cap P K) := Lw.grow TT.out (by first | exact undrew bb | exact bb); clear bb TT c0 c1; have TT : Hid (Lw w vk w.heap.size ao n cap P K) := TB.out; clear TB; obtain ⟨c0, c1⟩ := TT.out.c)
        | (go_at_call 16; (with_reducible refine Calls.mono (CC.out _ TT.out.l) ?_); rintro e vk ⟨rfl, bb⟩; have TB : Hid (Lw w vk w.heap.size ao n cap P K) := Lw.grow TT.out (by first | exact undrew bb | exact bb); clear bb TT c0 c1; have TT : Hid (Lw w vk w.heap.size ao n cap P K) := TB.out; clear TB; obtain ⟨c0, c1⟩ := TT.out.c))
    go_wp2_with fail
    go_ret
    exact ⟨rfl, TT.out.bel⟩
  · have CF : Hid _ := few07_any n cap ao K w1 hp.small false (by simp [hn])
    clear b1 hT hp
    go_enter Tryd.func3, Tryd.ntmps3
    go_wp2_with (first | rw [← E1.out])
    clear E1
    refine Calls.mono (Hid.out CF) ?_; rintro e w2 ⟨rfl, b2⟩
    have T2 : Hid (TabB w2) := T1.out.grow b2
    have B2 : Hid (Below w.heap.size w w2) := B1.out.trans (b2.mono B1.out.size)
    clear b2
    go_wp2_with fail
    refine Calls.mono (CA.out w2 T2.out) ?_; rintro e w3 ⟨rfl, b3⟩
    have B3 : Hid (Below w.heap.size w w3) := B2.out.trans (b3.mono B2.out.size)
    clear b3
    go_wp2_with fail
    go_ret
    exact ⟨rfl, B3.out⟩

end Go.Proofs.YtcohcdebbkfdfaaDoor.leafRight
