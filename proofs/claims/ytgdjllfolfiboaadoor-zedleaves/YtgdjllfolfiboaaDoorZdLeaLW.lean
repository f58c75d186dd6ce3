/- The walk of 'beaglelaw09.ZedLeaves': it answers true; nothing that was there is turned. For the statement's proof. -/
import Derived.OpenShut
import Derived.ProofKit
import Derived.Test.YtgdjllfolfiboaaDoorZdLaw
namespace Go.Proofs.YtgdjllfolfiboaaDoor.zedLeaves
open Go.ChangeShapes Go.WideShapes Go.ChangeAt Go.RowKit Cls
set_option linter.unusedVariables false

set_option maxHeartbeats 4000000 in
theorem walk (ao : Option Addr) (n cap : Nat) (P : Nat → Nat → Bool) (K : Int) (t : ByteArray) (w : World) (hp : Lp w ao n P) (ht : t.size ≤ maxLen) (hT : TabB w) :
    Calls Tryd.prog 5 #[.agg #[.slice ao n cap, .int .i64 K], .string t] w fun e w' => e = .returned (.bool true) ∧ Below w.heap.size w w' := by
  obtain ⟨w1, b1⟩ := lbox w (.slice ao n cap) (.int .i64 K)
  have E1 : Hid _ := b1.eq
  have B1 : Hid (Below w.heap.size w w1) := b1.bel
  have T1 : Hid (TabB w1) := hT.grow b1.bel
  have c0 := b1.c0
  have c1 := b1.c1
  have CA : Hid _ := fun (v : World) (hv : TabB v) => alive09_any v hv
  unfold maxLen at ht
  have hsm := hp.small
  by_cases hn : n ≤ 100 ∧ t.size ≤ 300
  · obtain ⟨hn1, hn2⟩ := hn
    have TT : Hid (Lw w w1 w.heap.size ao n cap P K) := ⟨b1.bel, ⟨b1.c0, b1.c1⟩, (hp.grow b1.bel).lf hn1, T1.out⟩
    have hnI : ¬ (100 : Int) < (n : Int) := by omega
    have hnJ : ¬ (300 : Int) < (t.size : Int) := by omega
    obtain ⟨m, hm⟩ : ∃ m, (zfd P n K t).length = m := ⟨_, rfl⟩
    have hml : m ≤ 301 := by
      rw [← hm]
      unfold zfd
      split
      · have := fdl_len (ltx P n) t; omega
      · exact Nat.zero_le _
    have C1 : Hid _ := fun (v : World) (h1 : TabB v) (h2 : Lf v ao n P) => (leaf09_any P n cap ao K t (by omega) v h1 h2).mono (fun _ _ h => told2_len hm h)
    have C2 : Hid _ := fun (v : World) (h2 : Lf v ao n P) => (refLeaf09_any P n cap ao K t (by omega) v h2).mono (fun _ _ h => told2_len hm h)
    have C3 : Hid _ := fun (v : World) (h2 : Lf v ao n P) => refFind_any P n cap ao K t (by omega) v h2
    have HZ : Hid _ := fun h => zfd_fnd (P := P) (n := n) (K := K) (t := t) h
    obtain ⟨L, hL⟩ : ∃ L, zfd P n K t = L := ⟨_, rfl⟩
    obtain ⟨z, hz⟩ : ∃ z, zok P n K = z := ⟨_, rfl⟩
    have CP : Hid _ := fun (v : World) (xo yo : Option Addr) (d e : Nat) (h1 : Is v xo L) (h2 : Is v yo L) => places_same L m (by rw [← hL]; exact hm) (by omega) xo yo d e v h1 h2
    rw [hL, hz] at C1 C2 HZ
    have C3' : Hid (z = true → ∀ (v : World), Lf v ao n P → Calls Tryd.prog 17 #[.agg #[.slice ao n cap, .int .i64 K], .string t] v fun e w' => (∃ bo d, e = .returned (.slice bo m d) ∧ Is w' bo L) ∧ Below v.heap.size v w') := fun hzt v hv => by
      have e := HZ.out hzt
      refine (C3.out v hv).mono (fun _ _ h => ?_)
      rw [← e] at h
      exact told_len (by rw [← hL]; exact hm) h
    clear b1 hT hp hL hz hm T1 B1 HZ C3
    go_enter Tryd.func5, Tryd.ntmps5
    go_wp2_with (first | rw [← E1.out])
    clear E1
    refine Calls.mono (C1.out w1 TT.out.tab TT.out.l) ?_; rintro e w2 ⟨⟨xo, xc, rfl, hx⟩, b2⟩
    have T2 : Hid (Lw w w2 w.heap.size ao n cap P K) := Lw.grow TT.out b2
    have HX2 : Hid (Is w2 xo L) := hx
    clear b2 TT C1 hx c0 c1
    obtain ⟨c0, c1⟩ := T2.out.c
    go_wp2_with fail
    refine Calls.mono (C2.out w2 T2.out.l) ?_; rintro e w3 ⟨⟨yo, yc, rfl, hy⟩, b3⟩
    have T3 : Hid (Lw w w3 w.heap.size ao n cap P K) := Lw.grow T2.out b3
    have HX3 : Hid (Is w3 xo L) := Is.grow HX2.out b3
    have HY3 : Hid (Is w3 yo L) := hy
    clear b3 T2 C2 hy c0 c1 HX2
    go_wp2_with fail
    refine Calls.mono (CA.out w3 T3.out.tab) ?_; rintro e w4 ⟨rfl, b4⟩
    have T4 : Hid (Lw w w4 w.heap.size ao n cap P K) := Lw.grow T3.out b4
    have HX4 : Hid (Is w4 xo L) := Is.grow HX3.out b4
    have HY4 : Hid (Is w4 yo L) := Is.grow HY3.out b4
    clear b4 T3 HX3 HY3 CA
    go_wp2_with fail
    refine Calls.mono (CP.out w4 xo yo xc yc HX4.out HY4.out) ?_; rintro e w5 ⟨rfl, b5⟩
    have T5 : Hid (Lw w w5 w.heap.size ao n cap P K) := Lw.grow T4.out b5
    have HX5 : Hid (Is w5 xo L) := Is.grow HX4.out b5
    clear b5 T4 HX4 HY4
    obtain ⟨c0, c1⟩ := T5.out.c
    cases z with
    | false =>
      clear C3'
      go_wp2_with fail
      go_ret
      exact ⟨rfl, T5.out.bel⟩
    | true =>
      have C3 : Hid _ := C3'.out rfl w5 T5.out.l
      clear C3'
      go_wp2_with fail
      refine Calls.mono (Hid.out C3) ?_; rintro e w6 ⟨⟨zo, zc, rfl, hz⟩, b6⟩
      have T6 : Hid (Lw w w6 w.heap.size ao n cap P K) := Lw.grow T5.out b6
      have HP : Hid _ := CP.out w6 xo zo xc zc (Is.grow HX5.out b6) hz
      clear b6 T5 HX5 hz c0 c1 C3 CP
      go_wp2_with fail
      refine Calls.mono (Hid.out HP) ?_; rintro e w7 ⟨rfl, b7⟩
      have T7 : Hid (Lw w w7 w.heap.size ao n cap P K) := Lw.grow T6.out b7
      clear b7 T6 HP
      go_wp2_with fail
      go_ret
      exact ⟨rfl, T7.out.bel⟩
  · have hb : (100 : Int) < (n : Int) ∨ (¬ (100 : Int) < (n : Int) ∧ (300 : Int) < (t.size : Int)) := by omega
    clear hn b1 hT hp
    rcases hb with hnI | ⟨hnI, hnJ⟩
    all_goals
      go_enter Tryd.func5, Tryd.ntmps5
      go_wp2_with (first | rw [← E1.out])
      refine Calls.mono (CA.out w1 T1.out) ?_; rintro e w2 ⟨rfl, b2⟩
      have B2 : Hid (Below w.heap.size w w2) := B1.out.trans (b2.mono B1.out.size)
      clear b2 CA
      go_wp2_with fail
      go_ret
      exact ⟨rfl, B2.out⟩

end Go.Proofs.YtgdjllfolfiboaaDoor.zedLeaves
