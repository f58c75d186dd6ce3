/- The walk of 'beaglelaw08.NaiveHits': it answers true; nothing that was there is turned. For the statement's proof. -/
import Derived.OpenShut
import Derived.ProofKit
import Derived.Test.YtpogipingefkaaaNvLaw
import Derived.Test.YtpogipingefkaaaNvSl
namespace Go.Proofs.Ytpogipingefkaaa.naiveHits
open Go.ChangeShapes Go.WideShapes Go.ChangeAt Go.RowKit Cls
set_option linter.unusedVariables false

set_option maxHeartbeats 4000000 in
theorem walk (ao : Option Addr) (n cap : Nat) (C : Nat → Int) (k : Int) (w : World) (hl : Si w ao n cap C) (hk : (Lit.int .i64 k).wf = true) :
    Calls Try.prog 5 #[.slice ao n cap, .int .i64 k] w fun e w' => e = .returned (.bool true) ∧ Below w.heap.size w w' := by
  have CA : Hid _ := fun (v : World) => alive08_any v
  have hn := hl.le
  have hr := hl.room
  have HL : Hid (Ir w ao n C) := hl.lies
  clear hl hk
  by_cases h : n ≤ 1000
  · have hI : (n : Int) ≤ 1000 := by omega
    obtain ⟨L, hL⟩ : ∃ L, hts C k n = L := ⟨_, rfl⟩
    have hLl : L.length ≤ 1000 := by rw [← hL]; have := hts_len C k n; omega
    have C1 : Hid _ := fun (v : World) (hv : Ir v ao n C) => hits_any C k n cap ao (by omega) v hv
    have C2 : Hid _ := fun (v : World) (hv : Ir v ao n C) => refHits_any C k n cap ao (by omega) v hv
    rw [hL] at C1 C2
    obtain ⟨m, hm⟩ : ∃ m, L.length = m := ⟨_, rfl⟩
    have CP : Hid _ := fun (v : World) (xo yo : Option Addr) (d e : Nat) (h1 : Is v xo L) (h2 : Is v yo L) => places_same L m hm (by omega) xo yo d e v h1 h2
    have C1' : Hid (∀ (v : World), Ir v ao n C → Calls Try.prog 20 #[.slice ao n cap, .int .i64 k] v fun e w' => (∃ bo d, e = .returned (.slice bo m d) ∧ Is w' bo L) ∧ Below v.heap.size v w') := fun v hv => (C1.out v hv).mono (fun e w' ⟨⟨bo, d, he, hi, _⟩, hb⟩ => ⟨⟨bo, d, by rw [he, hm], hi⟩, hb⟩)
    have C2' : Hid (∀ (v : World), Ir v ao n C → Calls Try.prog 21 #[.slice ao n cap, .int .i64 k] v fun e w' => (∃ bo d, e = .returned (.slice bo m d) ∧ Is w' bo L) ∧ Below v.heap.size v w') := fun v hv => (C2.out v hv).mono (fun e w' ⟨⟨bo, d, he, hi, _⟩, hb⟩ => ⟨⟨bo, d, by rw [he, hm], hi⟩, hb⟩)
    clear hL hm C1 C2
    go_enter Try.func5, Try.ntmps5
    go_wp2_with fail
    refine Calls.mono (CA.out w) ?_; rintro e w1 ⟨rfl, b1⟩
    have B1 : Hid (Below w.heap.size w w1) := b1
    have H1 : Hid (Ir w1 ao n C) := HL.out.grow b1
    clear b1 HL CA
    go_wp2_with fail
    refine Calls.mono (C1'.out w1 H1.out) ?_; rintro e w2 ⟨⟨xo, xd, rfl, hx⟩, b2⟩
    have B2 : Hid (Below w.heap.size w w2) := B1.out.trans (b2.mono B1.out.size)
    have H2 : Hid (Ir w2 ao n C) := H1.out.grow b2
    have X2 : Hid (Is w2 xo L) := hx
    clear b2 hx H1 C1'
    go_wp2_with fail
    refine Calls.mono (C2'.out w2 H2.out) ?_; rintro e w3 ⟨⟨yo, yd, rfl, hy⟩, b3⟩
    have B3 : Hid (Below w.heap.size w w3) := B2.out.trans (b3.mono B2.out.size)
    have X3 : Hid (Is w3 xo L) := X2.out.grow b3
    have Y3 : Hid (Is w3 yo L) := hy
    clear b3 hy H2 C2'
    go_wp2_with fail
    refine Calls.mono (CP.out w3 _ _ _ _ X3.out Y3.out) ?_; rintro e w4 ⟨rfl, b4⟩
    have B4 : Hid (Below w.heap.size w w4) := B3.out.trans (b4.mono B3.out.size)
    clear b4
    go_wp2_with fail
    go_ret
    exact ⟨rfl, B4.out⟩
  · have hI : (1000 : Int) < (n : Int) := by omega
    go_enter Try.func5, Try.ntmps5
    go_wp2_with fail
    refine Calls.mono (CA.out w) ?_; rintro e w1 ⟨rfl, b1⟩
    have B1 : Hid (Below w.heap.size w w1) := b1
    clear b1
    go_wp2_with fail
    go_ret
    exact ⟨rfl, B1.out⟩

end Go.Proofs.Ytpogipingefkaaa.naiveHits
