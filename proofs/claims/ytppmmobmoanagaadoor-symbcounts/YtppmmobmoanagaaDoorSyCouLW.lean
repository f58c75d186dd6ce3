/- The walk of 'beaglelaw11.SymbCounts': it answers true; nothing that was there is turned. For the statement's proof. -/
import Derived.OpenShut
import Derived.ProofKit
import Derived.Test.YtppmmobmoanagaaDoorSyAl
namespace Go.Proofs.YtppmmobmoanagaaDoor.symbCounts
open Go.ChangeShapes Go.WideShapes Go.ChangeAt Go.RowKit Cls
set_option linter.unusedVariables false

set_option maxRecDepth 4000 in
set_option maxHeartbeats 4000000 in
theorem walk (ao : Option Addr) (n cap : Nat) (P : Nat → Nat → Bool) (K : Int) (t : ByteArray) (z : Int) (w : World) (hp : Lp w ao n P) (ht : t.size ≤ maxLen) (hz : (Lit.int .i64 z).wf = true) (hA : Tab w) :
    Calls Tryd.prog 4 #[.agg #[.slice ao n cap, .int .i64 K], .string t, .int .i64 z] w fun e w' => e = .returned (.bool true) ∧ Below w.heap.size w w' := by
  obtain ⟨w1, b1⟩ := lbox w (.slice ao n cap) (.int .i64 K)
  have E1 : Hid _ := b1.eq
  have B1 : Hid (Below w.heap.size w w1) := b1.bel
  have A1 : Hid (Tab w1) := hA.below b1.bel (tab_lt hA)
  have c0 := b1.c0
  have c1 := b1.c1
  have CA : Hid _ := fun (v : World) (hu : Tab v) => alive11_any v hu
  unfold maxLen at ht
  have hsm := hp.small
  have CF : Hid _ := few11_any n cap ao K t (by omega) hsm w1
  by_cases hn : n ≤ 100 ∧ t.size ≤ 300
  · rw [decide_eq_true hn] at CF
    obtain ⟨hn1, hn2⟩ := hn
    have TT : Hid (Ly w w1 w.heap.size ao n cap P K) := ⟨b1.bel, ⟨b1.c0, b1.c1⟩, (hp.grow b1.bel).lf hn1, A1.out⟩
    have CS : Hid _ := fun (v : World) (h1 : Tab v) (h3 : Lf v ao n P) => counts11_any P n cap ao K z t (by omega) v h1 h3
    have CR : Hid _ := fun (v : World) (h3 : Lf v ao n P) => refCounts11_any P n cap ao K z t (by omega) v h3
    have hL := sc_len P n K t z
    obtain ⟨L, hL'⟩ : ∃ L, sc P n K t z = L := ⟨_, rfl⟩
    obtain ⟨m, hm⟩ : ∃ m, L.length = m := ⟨_, rfl⟩
    rw [hL'] at CS CR hL
    generalize sq P n K t.size z = Q at *
    generalize se P n K t.size z = C at *
    have CS' : Hid (∀ (v : World), Tab v → Lf v ao n P → Calls Tryd.prog 16 #[.agg #[.slice ao n cap, .int .i64 K], .string t, .int .i64 z] v fun e w' => (∃ bo d, e = .returned (.tuple #[.slice bo m d, .int .i64 Q, .int .i64 C]) ∧ Is w' bo L) ∧ Below v.heap.size v w') := fun v h1 h3 => (CS.out v h1 h3).mono (fun e w' h => by rw [← hm]; exact h)
    have CR' : Hid (∀ (v : World), Lf v ao n P → Calls Tryd.prog 17 #[.agg #[.slice ao n cap, .int .i64 K], .string t, .int .i64 z] v fun e w' => (∃ bo d, e = .returned (.tuple #[.slice bo m d, .int .i64 Q, .int .i64 C]) ∧ Is w' bo L) ∧ Below v.heap.size v w') := fun v h3 => (CR.out v h3).mono (fun e w' h => by rw [← hm]; exact h)
    have CP : Hid (∀ (v : World) (xo yo : Option Addr) (d e : Nat), Is v xo L → Is v yo L → Calls Tryd.prog 18 #[.slice xo m d, .slice yo m e] v fun e w' => e = .returned (.bool true) ∧ Below v.heap.size v w') := fun v xo yo d e h1 h2 => by
      have h := places_any L L d e xo yo v h1 h2 (by omega) (by omega)
      rw [eqi_same, hm] at h
      exact h
    have eQ : (Q == Q) = true := by simp
    have eC : (C == C) = true := by simp
    rw [hm] at hL
    clear b1 hA hp A1 B1 hL' hm CS CR hz
    go_enter Tryd.func4, Tryd.ntmps4
    go_wp2_with (first | rw [← E1.out])
    clear E1
    refine Calls.mono (Hid.out CF) ?_; rintro e w2 ⟨rfl, b2⟩
    have T2 : Hid (Ly w w2 w.heap.size ao n cap P K) := Ly.grow TT.out b2
    clear b2 TT c0 c1 CF
    obtain ⟨c0, c1⟩ := T2.out.c
    go_wp2_with fail
    refine Calls.mono (CS'.out w2 T2.out.ta T2.out.l) ?_; rintro e w3 ⟨⟨xo, xc, rfl, hx⟩, b3⟩
    have T3 : Hid (Ly w w3 w.heap.size ao n cap P K) := Ly.grow T2.out b3
    have X3 : Hid (Is w3 xo L) := hx
    clear b3 T2 CS' hx c0 c1
    obtain ⟨c0, c1⟩ := T3.out.c
    go_wp2_with fail
    refine Calls.mono (CR'.out w3 T3.out.l) ?_; rintro e w4 ⟨⟨yo, yc, rfl, hy⟩, b4⟩
    have T4 : Hid (Ly w w4 w.heap.size ao n cap P K) := Ly.grow T3.out b4
    have X4 : Hid (Is w4 xo L) := X3.out.grow b4
    have Y4 : Hid (Is w4 yo L) := hy
    clear b4 T3 CR' hy c0 c1 X3
    go_wp2_with fail
    refine Calls.mono (CA.out w4 T4.out.ta) ?_; rintro e w5 ⟨rfl, b5⟩
    have T5 : Hid (Ly w w5 w.heap.size ao n cap P K) := Ly.grow T4.out b5
    have X5 : Hid (Is w5 xo L) := X4.out.grow b5
    have Y5 : Hid (Is w5 yo L) := Y4.out.grow b5
    clear b5 T4 X4 Y4 CA
    go_wp2_with fail
    refine Calls.mono (CP.out w5 xo yo xc yc X5.out Y5.out) ?_; rintro e w6 ⟨rfl, b6⟩
    have T6 : Hid (Ly w w6 w.heap.size ao n cap P K) := Ly.grow T5.out b6
    clear b6 T5 X5 Y5 CP
    go_wp2_with fail
    go_ret
    exact ⟨rfl, T6.out.bel⟩
  · rw [decide_eq_false hn] at CF
    clear hn b1 hA hp
    go_enter Tryd.func4, Tryd.ntmps4
    go_wp2_with (first | rw [← E1.out])
    refine Calls.mono (Hid.out CF) ?_; rintro e w2 ⟨rfl, b2⟩
    have B2 : Hid (Below w.heap.size w w2) := B1.out.trans (b2.mono B1.out.size)
    have CA2 : Hid _ := CA.out w2 (A1.out.below b2 (tab_lt A1.out))
    clear b2 CA CF c0 c1 E1
    go_wp2_with fail
    refine Calls.mono (Hid.out CA2) ?_; rintro e w3 ⟨rfl, b3⟩
    have B3 : Hid (Below w.heap.size w w3) := B2.out.trans (b3.mono B2.out.size)
    clear b3 CA2
    go_wp2_with fail
    go_ret
    exact ⟨rfl, B3.out⟩

end Go.Proofs.YtppmmobmoanagaaDoor.symbCounts
