/- The walk of 'beaglelaw07.LeafTexts': it answers true; nothing that was there is turned. For the statement's proof. -/
import Derived.OpenShut
import Derived.ProofKit
import Derived.Test.YtcohcdebbkfdfaaDoorLfLaw
namespace Go.Proofs.YtcohcdebbkfdfaaDoor.leafTexts
open Go.ChangeShapes Go.WideShapes Go.ChangeAt Go.RowKit Cls
set_option linter.unusedVariables false

set_option maxHeartbeats 4000000 in
theorem walk (s : ByteArray) (K : Int) (w : World) (hs : s.size ≤ maxLen) (hK : (Lit.int .i64 K).wf = true) (hT : TabB w) :
    Calls Tryd.prog 4 #[.string s, .int .i64 K] w fun e w' => e = .returned (.bool true) ∧ Below w.heap.size w w' := by
  have HT : Hid (TabB w) := hT
  have CA : Hid _ := fun (v : World) (hv : TabB v) => alive07_any v hv
  unfold maxLen at hs
  clear hT hK
  by_cases hn : s.size ≤ 100
  · have hn' : ¬ (100 : Int) < (s.size : Int) := by omega
    have CT : Hid _ := fun (v : World) => text_any s K v (by omega)
    have CR : Hid _ := fun (v : World) => refText_any s K v (by omega)
    have CS : Hid (∀ (v : World) (x y : Option Addr) (d e : Nat), Lf v x s.size (tx s) → Lf v y s.size (tx s) → Calls Tryd.prog 19 #[.agg #[.slice x s.size d, .int .i64 K], .agg #[.slice y s.size e, .int .i64 K]] v fun e w' => e = .returned (.bool true) ∧ Below v.heap.size v w') := fun v x y d e h1 h2 => by
      have h := refSame_any (tx s) (tx s) s.size s.size d e x y K K v h1 h2
      rw [sml_refl] at h
      exact h
    have CL : Hid (∀ (v : World) (x : Option Addr) (d : Nat), TabB v → Lf v x s.size (tx s) → Calls Tryd.prog 18 #[.agg #[.slice x s.size d, .int .i64 K]] v fun e w' => e = .returned (.tuple #[.string s, .bool true]) ∧ Below v.heap.size v w') := fun v x d h0 h1 => by
      have h := letters_any (tx s) s.size d x K v h0 h1
      rw [ltx_tx, als_tx] at h
      exact h
    have CP : Hid (∀ (v : World) (x : Option Addr) (d : Nat), TabB v → Lf v x s.size (tx s) → Calls Tryd.prog 13 #[.agg #[.slice x s.size d, .int .i64 K]] v fun e w' => e = .returned (.bool true) ∧ Below v.heap.size v w') := fun v x d h0 h1 => by
      have h := plain_any (tx s) s.size d x K v h0 h1
      rw [pln_tx] at h
      exact h
    have CB : Hid (∀ (v : World) (x : Option Addr) (d : Nat), Lf v x s.size (tx s) → Calls Tryd.prog 15 #[.agg #[.slice x s.size d, .int .i64 K]] v fun e w' => e = .returned (.int .i64 ((s.size : Nat) : Int)) ∧ Below v.heap.size v w') := fun v x d h1 => by
      have h := bound_any (tx s) s.size d x K v h1
      rw [bnd_tx s s.size (Nat.le_refl _)] at h
      exact h
    go_enter Tryd.func4, Tryd.ntmps4
    go_wp2_with fail
    refine Calls.mono (CT.out _) ?_; rintro e w1 ⟨⟨bo, d, rfl, hl⟩, b1⟩
    obtain ⟨w2, b2⟩ := lbox w1 (.slice bo s.size d) (.int .i64 K)
    have E2 : Hid _ := b2.eq
    have TT : Hid (Lw w w2 w1.heap.size bo s.size d (tx s) K) := ⟨b1.trans (b2.bel.mono b1.size), ⟨b2.c0, b2.c1⟩, hl.grow b2.bel, (HT.out.grow b1).grow b2.bel⟩
    clear hl b1 b2 HT CT
    obtain ⟨c0, c1⟩ := TT.out.c
    go_wp2_with fail
    rw [← E2.out]
    clear E2
    refine Calls.mono (CL.out w2 _ _ TT.out.tab TT.out.l) ?_; rintro e w3 ⟨rfl, b3⟩
    have TB : Hid (Lw w w3 w1.heap.size bo s.size d (tx s) K) := Lw.grow TT.out b3
    clear b3 TT CL c0 c1
    have TT : Hid (Lw w w3 w1.heap.size bo s.size d (tx s) K) := TB.out
    clear TB
    obtain ⟨c0, c1⟩ := TT.out.c
    go_wp2_with fail
    go_region_held3 (fun w' => w'.cell? ⟨w1.heap.size, 0, none⟩ = some (.slice bo s.size d) ∧ w'.cell? ⟨w1.heap.size, 1, none⟩ = some (.int .i64 K)) (go_keep)
      (first
        | (go_at_call 10; (refine Calls.mono (CA.out _ TT.out.tab) ?_); rintro e vk ⟨rfl, bb⟩; have TB : Hid (Lw w vk w1.heap.size bo s.size d (tx s) K) := (Lw.grow TT.out (by first | exact undrew bb | exact bb)); clear bb TT c0 c1; have TT : Hid (Lw w vk w1.heap.size bo s.size d (tx s) K) := TB.out; clear TB; obtain ⟨c0, c1⟩ := TT.out.c)
        | (go_at_call 20; (with_reducible refine Calls.mono (CR.out _) ?_); rintro e vk ⟨⟨xo, xc, rfl, hk⟩, bb⟩; have XX : Hid (Lf vk xo s.size (tx s)) := hk; clear hk; have TB : Hid (Lw w vk w1.heap.size bo s.size d (tx s) K) := (Lw.grow TT.out (by first | exact undrew bb | exact bb)); clear bb TT c0 c1; have TT : Hid (Lw w vk w1.heap.size bo s.size d (tx s) K) := TB.out; clear TB; obtain ⟨c0, c1⟩ := TT.out.c)
        | (go_at_call 19; (with_reducible refine Calls.mono (CS.out _ _ _ _ _ TT.out.l XX.out) ?_); rintro e vk ⟨rfl, bb⟩; have TB : Hid (Lw w vk w1.heap.size bo s.size d (tx s) K) := (Lw.grow TT.out (by first | exact undrew bb | exact bb)); clear bb TT c0 c1; have TT : Hid (Lw w vk w1.heap.size bo s.size d (tx s) K) := TB.out; clear TB; obtain ⟨c0, c1⟩ := TT.out.c)
        | (go_at_call 13; (with_reducible refine Calls.mono (CP.out _ _ _ TT.out.tab TT.out.l) ?_); rintro e vk ⟨rfl, bb⟩; have TB : Hid (Lw w vk w1.heap.size bo s.size d (tx s) K) := (Lw.grow TT.out (by first | exact undrew bb | exact bb)); clear bb TT c0 c1; have TT : Hid (Lw w vk w1.heap.size bo s.size d (tx s) K) := TB.out; clear TB; obtain ⟨c0, c1⟩ := TT.out.c)
        | (go_at_call 15; (with_reducible refine Calls.mono (CB.out _ _ _ TT.out.l) ?_); rintro e vk ⟨rfl, bb⟩; have TB : Hid (Lw w vk w1.heap.size bo s.size d (tx s) K) := (Lw.grow TT.out (by first | exact undrew bb | exact bb)); clear bb TT c0 c1; have TT : Hid (Lw w vk w1.heap.size bo s.size d (tx s) K) := TB.out; clear TB; obtain ⟨c0, c1⟩ := TT.out.c))
    go_wp2_with fail
    go_ret
    exact ⟨rfl, TT.out.bel⟩
  · have hn' : (100 : Int) < (s.size : Int) := by omega
    go_enter Tryd.func4, Tryd.ntmps4
    go_wp2_with fail
    refine Calls.mono (CA.out w HT.out) ?_; rintro e w3 ⟨rfl, b3⟩
    have B3 : Hid (Below w.heap.size w w3) := b3
    clear b3
    go_wp2_with fail
    go_ret
    exact ⟨rfl, B3.out⟩

end Go.Proofs.YtcohcdebbkfdfaaDoor.leafTexts
