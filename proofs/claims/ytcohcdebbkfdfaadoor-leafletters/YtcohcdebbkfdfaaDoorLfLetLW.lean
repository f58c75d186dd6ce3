/- The walk of 'beaglelaw07.LeafLetters': it answers true; nothing that was there is turned. For the statement's proof. -/
import Derived.OpenShut
import Derived.ProofKit
import Derived.Test.YtcohcdebbkfdfaaDoorLfLaw
import Derived.Test.YtcohcdebbkfdfaaDoorLead
namespace Go.Proofs.YtcohcdebbkfdfaaDoor.leafLetters
open Go.ChangeShapes Go.WideShapes Go.ChangeAt Go.RowKit Cls
set_option linter.unusedVariables false

set_option maxHeartbeats 4000000 in
theorem walk (ao : Option Addr) (n cap : Nat) (P : Nat → Nat → Bool) (K : Int) (w : World) (hp : Lp w ao n P) (hT : TabB w) :
    Calls Tryd.prog 5 #[.agg #[.slice ao n cap, .int .i64 K]] w fun e w' => e = .returned (.bool true) ∧ Below w.heap.size w w' := by
  obtain ⟨w1, b1⟩ := lbox w (.slice ao n cap) (.int .i64 K)
  have E1 : Hid _ := b1.eq
  have B1 : Hid (Below w.heap.size w w1) := b1.bel
  have T1 : Hid (TabB w1) := hT.grow b1.bel
  have c0 := b1.c0
  have c1 := b1.c1
  have CA : Hid _ := fun (v : World) (hv : TabB v) => alive07_any v hv
  by_cases hn : n ≤ 100
  · have TT : Hid (Lw w w1 w.heap.size ao n cap P K) := ⟨b1.bel, ⟨b1.c0, b1.c1⟩, (hp.grow b1.bel).lf hn, T1.out⟩
    have CF : Hid _ := few07_any n cap ao K w1 hp.small true (by simp [hn])
    have hsz : (ltx P n).size ≤ 100 := by
      unfold ltx
      split
      · show (lts P n).toArray.size ≤ 100
        simp [lts_len, hn]
      · show (#[] : Array UInt8).size ≤ 100
        simp
    have HB : Hid (als P n = true → sml (tx (ltx P n)) (ltx P n).size K P n K = true) := fun h => text_back h K
    obtain ⟨S, hS⟩ : ∃ S, ltx P n = S := ⟨_, rfl⟩
    obtain ⟨t, ht⟩ : ∃ t, als P n = t := ⟨_, rfl⟩
    have CL : Hid _ := fun (v : World) (hT : TabB v) (hv : Lf v ao n P) => letters_any P n cap ao K v hT hv
    have CM : Hid _ := fun (v : World) (hv : Lf v ao n P) => refLetters_any P n cap ao K v hv
    rw [hS] at CL CM hsz HB
    rw [ht] at CL CM HB
    have CT : Hid _ := fun (v : World) => text_any S K v (by omega)
    have CS0 : Hid _ := fun (v : World) (x : Option Addr) (d : Nat) (h1 : Lf v x S.size (tx S)) (h2 : Lf v ao n P) => same_any (tx S) P S.size n d cap x ao K K v h1 h2
    have et : (t == t) = true := by simp
    clear b1 hT hp hS ht T1 B1 hsz
    go_enter Tryd.func5, Tryd.ntmps5
    go_wp2_with (first | rw [← E1.out])
    clear E1
    refine Calls.mono (Hid.out CF) ?_; rintro e w2 ⟨rfl, b2⟩
    have TB : Hid (Lw w w2 w.heap.size ao n cap P K) := Lw.grow TT.out b2
    clear b2 TT CF c0 c1
    have TT : Hid (Lw w w2 w.heap.size ao n cap P K) := TB.out
    clear TB
    obtain ⟨c0, c1⟩ := TT.out.c
    go_wp2_with fail
    refine Calls.mono (CL.out w2 TT.out.tab TT.out.l) ?_; rintro e w3 ⟨rfl, b3⟩
    have TB : Hid (Lw w w3 w.heap.size ao n cap P K) := Lw.grow TT.out b3
    clear b3 TT CL c0 c1
    have TT : Hid (Lw w w3 w.heap.size ao n cap P K) := TB.out
    clear TB
    obtain ⟨c0, c1⟩ := TT.out.c
    go_wp2_with fail
    refine Calls.mono (CM.out w3 TT.out.l) ?_; rintro e w4 ⟨rfl, b4⟩
    have TB : Hid (Lw w w4 w.heap.size ao n cap P K) := Lw.grow TT.out b4
    clear b4 TT CM c0 c1
    have TT : Hid (Lw w w4 w.heap.size ao n cap P K) := TB.out
    clear TB
    obtain ⟨c0, c1⟩ := TT.out.c
    cases t with
    | true =>
      have CS : Hid (∀ (v : World) (x : Option Addr) (d : Nat), Lf v x S.size (tx S) → Lf v ao n P → Calls Tryd.prog 22 #[.agg #[.slice x S.size d, .int .i64 K], .agg #[.slice ao n cap, .int .i64 K]] v fun e w' => e = .returned (.bool true) ∧ Below v.heap.size v w') := fun v x d h1 h2 => by
        have h := CS0.out v x d h1 h2
        rw [HB.out rfl] at h
        exact h
      clear CS0 HB et
      go_wp2_with fail
      go_region_held3 (fun w' => w'.cell? ⟨w.heap.size, 0, none⟩ = some (.slice ao n cap) ∧ w'.cell? ⟨w.heap.size, 1, none⟩ = some (.int .i64 K)) (go_keep)
      (first
        | (go_at_call 10; (refine Calls.mono (CA.out _ TT.out.tab) ?_); rintro e vk ⟨rfl, bb⟩; have TB : Hid (Lw w vk w.heap.size ao n cap P K) := (Lw.grow TT.out (by first | exact undrew bb | exact bb)); clear bb TT c0 c1; have TT : Hid (Lw w vk w.heap.size ao n cap P K) := TB.out; clear TB; obtain ⟨c0, c1⟩ := TT.out.c)
        | (go_at_call 17; (with_reducible refine Calls.mono (CT.out _) ?_); rintro e vk ⟨⟨xo, xc, rfl, hk⟩, bb⟩; have XX : Hid (Lf vk xo S.size (tx S)) := hk; clear hk; have TB : Hid (Lw w vk w.heap.size ao n cap P K) := (Lw.grow TT.out (by first | exact undrew bb | exact bb)); clear bb TT c0 c1; have TT : Hid (Lw w vk w.heap.size ao n cap P K) := TB.out; clear TB; obtain ⟨c0, c1⟩ := TT.out.c)
        | (go_at_call 22; (with_reducible refine Calls.mono (CS.out _ _ _ XX.out TT.out.l) ?_); rintro e vk ⟨rfl, bb⟩; have TB : Hid (Lw w vk w.heap.size ao n cap P K) := (Lw.grow TT.out (by first | exact undrew bb | exact bb)); clear bb TT c0 c1; have TT : Hid (Lw w vk w.heap.size ao n cap P K) := TB.out; clear TB; obtain ⟨c0, c1⟩ := TT.out.c))
      go_wp2_with fail
      go_ret
      exact ⟨rfl, TT.out.bel⟩
    | false =>
      clear CS0 HB et
      go_wp2_with fail
      refine wp_region_lead (by kernel_rfl) (by kernel_rfl) (by kernel_rfl) (by kernel_rfl) (by rfl) ?_
      intro K' hK
      go_simp
      refine Calls.mono (CA.out _ TT.out.tab) ?_; rintro e v6 ⟨rfl, b6⟩
      have TB : Hid (Lw w v6 w.heap.size ao n cap P K) := Lw.grow TT.out (undrew b6)
      clear b6 TT c0 c1
      obtain ⟨c0, c1⟩ := TB.out.c
      refine hK _ _ ?_
      clear hK K'
      repeat (go_big_quiet_step (fail))
      refine wpQuiet_nil ?_
      intro _ hw'
      obtain ⟨nq, rfl⟩ := hw'
      go_wp2_with fail
      go_ret
      exact ⟨rfl, below_drewN TB.out.bel nq⟩
  · have CF : Hid _ := few07_any n cap ao K w1 hp.small false (by simp [hn])
    clear b1 hT hp
    go_enter Tryd.func5, Tryd.ntmps5
    go_wp2_with (first | rw [← E1.out])
    clear E1
    refine Calls.mono (Hid.out CF) ?_; rintro e w2 ⟨rfl, b2⟩
    have T2 : Hid (TabB w2) := T1.out.grow b2
    have B2 : Hid (Below w.heap.size w w2) := B1.out.trans (b2.mono B1.out.size)
    clear b2
    go_wp2_with fail
    refine Calls.mono (CA.out w2 T2.out) ?_; rintro e w3 ⟨rfl, b3⟩
    have B3 : Hid (Below w.heap.size w w3) := B2.out.trans (b3.mono B2.out.size)
    clear b3
    go_wp2_with fail
    go_ret
    exact ⟨rfl, B3.out⟩

end Go.Proofs.YtcohcdebbkfdfaaDoor.leafLetters
