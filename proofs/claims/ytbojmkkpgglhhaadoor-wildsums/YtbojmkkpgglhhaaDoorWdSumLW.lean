/- The walk of 'beaglelaw10.WildSums': it answers true; nothing that was there is turned. For the statement's proof. -/
import Derived.OpenShut
import Derived.ProofKit
import Derived.Test.YtbojmkkpgglhhaaDoorWdLaw
namespace Go.Proofs.YtbojmkkpgglhhaaDoor.wildSums
open Go.ChangeShapes Go.WideShapes Go.ChangeAt Go.RowKit Cls
set_option linter.unusedVariables false

set_option maxRecDepth 4000 in
set_option maxHeartbeats 4000000 in
theorem walk (ao : Option Addr) (n cap : Nat) (P : Nat → Nat → Bool) (K : Int) (t : ByteArray) (z : Int) (w : World) (hp : Lp w ao n P) (ht : t.size ≤ maxLen) (hz : (Lit.int .i64 z).wf = true) (hA : Tab w) (hT : TabB w) :
    Calls Tryd.prog 4 #[.agg #[.slice ao n cap, .int .i64 K], .string t, .int .i64 z] w fun e w' => e = .returned (.bool true) ∧ Below w.heap.size w w' := by
  obtain ⟨w1, b1⟩ := lbox w (.slice ao n cap) (.int .i64 K)
  have E1 : Hid _ := b1.eq
  have B1 : Hid (Below w.heap.size w w1) := b1.bel
  have A1 : Hid (Tab w1) := tab_grow hA b1.bel
  have T1 : Hid (TabB w1) := hT.grow b1.bel
  have c0 := b1.c0
  have c1 := b1.c1
  have CA : Hid _ := fun (v : World) (hu : Tab v) (hv : TabB v) => alive10_any v hu hv
  unfold maxLen at ht
  have hsm := hp.small
  have CF : Hid _ := few10_any n cap ao K t (by omega) hsm w1
  by_cases hn : n ≤ 100 ∧ t.size ≤ 300
  · rw [decide_eq_true hn] at CF
    obtain ⟨hn1, hn2⟩ := hn
    have TT : Hid (Lx w w1 w.heap.size ao n cap P K) := ⟨b1.bel, ⟨b1.c0, b1.c1⟩, (hp.grow b1.bel).lf hn1, A1.out, T1.out⟩
    have hN := wn_le P n K t.size z
    have CS : Hid _ := fun (v : World) (h1 : Tab v) (h2 : TabB v) (h3 : Lf v ao n P) => wsums_any P n cap ao K z t (by omega) v h1 h2 h3
    have CR : Hid _ := fun (v : World) (h3 : Lf v ao n P) => refWSums_any P n cap ao K z t (by omega) v h3
    obtain ⟨N, hN'⟩ : ∃ N, wn P n K t.size z = N := ⟨_, rfl⟩
    obtain ⟨F, hF⟩ : ∃ F : Nat → Int, (fun i => ws P t i n) = F := ⟨_, rfl⟩
    rw [hN'] at CS CR hN
    rw [hF] at CS CR
    generalize wq P n K t.size z = Q at *
    generalize we P n K t.size z = C at *
    have CM : Hid _ := fun (v : World) (x y : Option Addr) (d e : Nat) (h1 : Lies v x N F) (h2 : Lies v y N F) => same_told N (by omega) F x y d e v h1 h2
    have eQ : (Q == Q) = true := by simp
    have eC : (C == C) = true := by simp
    clear b1 hT hA hp T1 A1 B1 hF hN' hz
    go_enter Tryd.func4, Tryd.ntmps4
    go_wp2_with (first | rw [← E1.out])
    clear E1
    refine Calls.mono (Hid.out CF) ?_; rintro e w2 ⟨rfl, b2⟩
    have T2 : Hid (Lx w w2 w.heap.size ao n cap P K) := Lx.grow TT.out b2
    clear b2 TT c0 c1 CF
    obtain ⟨c0, c1⟩ := T2.out.c
    go_wp2_with fail
    refine Calls.mono (CS.out w2 T2.out.ta T2.out.tb T2.out.l) ?_; rintro e w3 ⟨xo, xc, rfl, lx, b3⟩
    have T3 : Hid (Lx w w3 w.heap.size ao n cap P K) := Lx.grow T2.out b3
    have LX3 : Hid (Lies w3 xo N F) := lx
    clear b3 T2 c0 c1 lx CS
    obtain ⟨c0, c1⟩ := T3.out.c
    go_wp2_with fail
    refine Calls.mono (CR.out w3 T3.out.l) ?_; rintro e w4 ⟨yo, yc, rfl, ly, b4⟩
    have T4 : Hid (Lx w w4 w.heap.size ao n cap P K) := Lx.grow T3.out b4
    have LX4 : Hid (Lies w4 xo N F) := LX3.out.below b4 (Nat.le_refl _)
    have LY4 : Hid (Lies w4 yo N F) := ly
    clear b4 T3 c0 c1 ly CR LX3
    go_wp2_with fail
    refine Calls.mono (CA.out w4 T4.out.ta T4.out.tb) ?_; rintro e w5 ⟨rfl, b5⟩
    have T5 : Hid (Lx w w5 w.heap.size ao n cap P K) := Lx.grow T4.out b5
    have LX5 : Hid (Lies w5 xo N F) := LX4.out.below b5 (Nat.le_refl _)
    have LY5 : Hid (Lies w5 yo N F) := LY4.out.below b5 (Nat.le_refl _)
    clear b5 T4 CA LX4 LY4
    go_wp2_with fail
    refine Calls.mono (CM.out w5 xo yo xc yc LX5.out LY5.out) ?_; rintro e w6 ⟨rfl, b6⟩
    have T6 : Hid (Lx w w6 w.heap.size ao n cap P K) := Lx.grow T5.out b6
    clear b6 T5 LX5 LY5
    go_wp2_with fail
    go_ret
    exact ⟨rfl, T6.out.bel⟩
  · rw [decide_eq_false hn] at CF
    clear hn b1 hT hA hp
    go_enter Tryd.func4, Tryd.ntmps4
    go_wp2_with (first | rw [← E1.out])
    refine Calls.mono (Hid.out CF) ?_; rintro e w2 ⟨rfl, b2⟩
    have B2 : Hid (Below w.heap.size w w2) := B1.out.trans (b2.mono B1.out.size)
    have CA2 : Hid _ := CA.out w2 (tab_grow A1.out b2) (T1.out.grow b2)
    clear b2 CA CF c0 c1 E1
    go_wp2_with fail
    refine Calls.mono (Hid.out CA2) ?_; rintro e w3 ⟨rfl, b3⟩
    have B3 : Hid (Below w.heap.size w w3) := B2.out.trans (b3.mono B2.out.size)
    clear b3 CA2
    go_wp2_with fail
    go_ret
    exact ⟨rfl, B3.out⟩

end Go.Proofs.YtbojmkkpgglhhaaDoor.wildSums
