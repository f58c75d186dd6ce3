/- The walk of 'beaglelaw12.SplitCounts': it answers true; nothing that was there is turned. For the statement's proof. -/
import Derived.OpenShut
import Derived.ProofKit
import Derived.Test.YtlogdjhnhnfbkaaDoorSpC
namespace Go.Proofs.YtlogdjhnhnfbkaaDoor.splitCounts
open Go.ChangeShapes Go.WideShapes Go.ChangeAt Go.RowKit Cls
set_option linter.unusedVariables false

set_option maxRecDepth 4000 in
set_option maxHeartbeats 4000000 in
theorem walk (ao : Option Addr) (n cap : Nat) (P : Nat → Nat → Bool) (K : Int) (t : ByteArray) (x y : Int) (w : World) (hp : Lp w ao n P) (ht : t.size ≤ maxLen) (hx : (Lit.int .i64 x).wf = true) (hy : (Lit.int .i64 y).wf = true) (hA : Tab w) (hB : TabB w) :
    Calls Tryd.prog 5 #[.agg #[.slice ao n cap, .int .i64 K], .string t, .agg #[.int .i64 x, .int .i64 y]] w fun e w' => e = .returned (.bool true) ∧ Below w.heap.size w w' := by
  obtain ⟨w0, b0⟩ := lbox w (.slice ao n cap) (.int .i64 K)
  obtain ⟨w1, e1⟩ : ∃ w1, w1 = w0.alloc (.cells #[.int .i64 x, .int .i64 y] 40) := ⟨_, rfl⟩
  have b01 : Below w0.heap.size w0 w1 := by rw [e1]; exact al_below _ _
  have hz1 : Za w1 w0.heap.size x y := by rw [e1]; exact za_new w0 x y
  have E0 : Hid _ := b0.eq
  have E1 : Hid _ := e1
  have HS : Hid (w.heap.size + 1 = w0.heap.size) := b0.size.symm
  have s0 : w.heap.size < w0.heap.size := by have := b0.size; omega
  have B1 : Hid (Below w.heap.size w w1) := b0.bel.trans (b01.mono b0.bel.size)
  have A1 : Hid (Tab w1) := tab_grow hA B1.out
  have AB1 : Hid (TabB w1) := hB.grow B1.out
  have hc := two_below ⟨b0.c0, b0.c1⟩ b01 s0
  obtain ⟨c0, c1⟩ := hc
  have Z1 : Hid (Za w1 w0.heap.size x y) := hz1
  have CA : Hid _ := fun (v : World) (hu : Tab v) (hv : TabB v) => alive12_any v hu hv
  unfold maxLen at ht
  have hsm := hp.small
  have CF : Hid _ := few12_any n cap ao K t (by omega) hsm w1
  by_cases hn : n ≤ 100 ∧ t.size ≤ 300
  · rw [decide_eq_true hn] at CF
    obtain ⟨hn1, hn2⟩ := hn
    have TT : Hid (Lx w w1 w.heap.size ao n cap P K) := ⟨B1.out, ⟨c0, c1⟩, (hp.grow B1.out).lf hn1, A1.out, AB1.out⟩
    have CS : Hid _ := fun (v : World) (h1 : Tab v) (h2 : TabB v) (h3 : Lf v ao n P) => counts12_any P n cap ao K x y t (by omega) v h1 h2 h3
    have CR : Hid _ := fun (v : World) (h3 : Lf v ao n P) => refCounts12_any P n cap ao K x y t (by omega) v h3
    have hL := spc_len P n K t x y
    obtain ⟨L, hL'⟩ : ∃ L, spc P n K t x y = L := ⟨_, rfl⟩
    obtain ⟨m, hm⟩ : ∃ m, L.length = m := ⟨_, rfl⟩
    rw [hL'] at CS CR hL
    generalize spq P n K t.size x y = Q at *
    generalize spe P n K t.size x y = C at *
    have CS' : Hid (∀ (v : World), Tab v → TabB v → Lf v ao n P → Calls Tryd.prog 19 #[.agg #[.slice ao n cap, .int .i64 K], .string t, .int .i64 x, .int .i64 y] v fun e w' => (∃ bo d, e = .returned (.tuple #[.slice bo m d, .int .i64 Q, .int .i64 C]) ∧ Is w' bo L) ∧ Below v.heap.size v w') := fun v h1 h2 h3 => (CS.out v h1 h2 h3).mono (fun e w' h => by rw [← hm]; exact h)
    have CR' : Hid (∀ (v : World), Lf v ao n P → Calls Tryd.prog 20 #[.agg #[.slice ao n cap, .int .i64 K], .string t, .int .i64 x, .int .i64 y] v fun e w' => (∃ bo d, e = .returned (.tuple #[.slice bo m d, .int .i64 Q, .int .i64 C]) ∧ Is w' bo L) ∧ Below v.heap.size v w') := fun v h3 => (CR.out v h3).mono (fun e w' h => by rw [← hm]; exact h)
    have CP : Hid (∀ (v : World) (xo yo : Option Addr) (d e : Nat), Is v xo L → Is v yo L → Calls Tryd.prog 14 #[.slice xo m d, .slice yo m e] v fun e w' => e = .returned (.bool true) ∧ Below v.heap.size v w') := fun v xo yo d e h1 h2 => by
      have h := places_any L L d e xo yo v h1 h2 (by omega) (by omega)
      rw [eqi_same, hm] at h
      exact h
    have eQ : (Q == Q) = true := by simp
    have eC : (C == C) = true := by simp
    rw [hm] at hL
    clear b0 b01 e1 hz1 hA hB hp A1 AB1 B1 hL' hm CS CR hx hy
    go_enter Tryd.func5, Tryd.ntmps5
    go_wp2_with (first | rw [← E0.out, ← E1.out, HS.out])
    clear E0 E1 HS
    refine Calls.mono (Hid.out CF) ?_; rintro e w2 ⟨rfl, b2⟩
    have T2 : Hid (Lx w w2 w.heap.size ao n cap P K) := TT.out.grow b2
    have Z2 : Hid (Za w2 w0.heap.size x y) := Z1.out.grow b2
    clear b2 TT c0 c1 CF Z1
    generalize w0.heap.size = g at *
    obtain ⟨c0, c1⟩ := T2.out.c
    have z0 := Z2.out.c0
    have z1 := Z2.out.c1
    go_wp2_with fail
    refine Calls.mono (CS'.out w2 T2.out.ta T2.out.tb T2.out.l) ?_; rintro e w3 ⟨⟨xo, xc, rfl, hx⟩, b3⟩
    have T3 : Hid (Lx w w3 w.heap.size ao n cap P K) := T2.out.grow b3
    have Z3 : Hid (Za w3 g x y) := Z2.out.grow b3
    have X3 : Hid (Is w3 xo L) := hx
    clear b3 T2 Z2 CS' hx c0 c1 z0 z1
    obtain ⟨c0, c1⟩ := T3.out.c
    have z0 := Z3.out.c0
    have z1 := Z3.out.c1
    go_wp2_with fail
    refine Calls.mono (CR'.out w3 T3.out.l) ?_; rintro e w4 ⟨⟨yo, yc, rfl, hy⟩, b4⟩
    have T4 : Hid (Lx w w4 w.heap.size ao n cap P K) := T3.out.grow b4
    have X4 : Hid (Is w4 xo L) := X3.out.grow b4
    have Y4 : Hid (Is w4 yo L) := hy
    clear b4 T3 Z3 CR' hy c0 c1 z0 z1 X3
    go_wp2_with fail
    refine Calls.mono (CA.out w4 T4.out.ta T4.out.tb) ?_; rintro e w5 ⟨rfl, b5⟩
    have T5 : Hid (Lx w w5 w.heap.size ao n cap P K) := T4.out.grow b5
    have X5 : Hid (Is w5 xo L) := X4.out.grow b5
    have Y5 : Hid (Is w5 yo L) := Y4.out.grow b5
    clear b5 T4 X4 Y4 CA
    go_wp2_with fail
    refine Calls.mono (CP.out w5 xo yo xc yc X5.out Y5.out) ?_; rintro e w6 ⟨rfl, b6⟩
    have T6 : Hid (Lx w w6 w.heap.size ao n cap P K) := T5.out.grow b6
    clear b6 T5 X5 Y5 CP
    go_wp2_with fail
    go_ret
    exact ⟨rfl, T6.out.bel⟩
  · rw [decide_eq_false hn] at CF
    clear hn b0 b01 e1 hz1 hA hB hp Z1
    go_enter Tryd.func5, Tryd.ntmps5
    go_wp2_with (first | rw [← E0.out, ← E1.out, HS.out])
    refine Calls.mono (Hid.out CF) ?_; rintro e w2 ⟨rfl, b2⟩
    have B2 : Hid (Below w.heap.size w w2) := B1.out.trans (b2.mono B1.out.size)
    have CA2 : Hid _ := CA.out w2 (tab_grow A1.out b2) (AB1.out.grow b2)
    clear b2 CA CF c0 c1 E1 E0 HS
    go_wp2_with fail
    refine Calls.mono (Hid.out CA2) ?_; rintro e w3 ⟨rfl, b3⟩
    have B3 : Hid (Below w.heap.size w w3) := B2.out.trans (b3.mono B2.out.size)
    clear b3 CA2
    go_wp2_with fail
    go_ret
    exact ⟨rfl, B3.out⟩

end Go.Proofs.YtlogdjhnhnfbkaaDoor.splitCounts
