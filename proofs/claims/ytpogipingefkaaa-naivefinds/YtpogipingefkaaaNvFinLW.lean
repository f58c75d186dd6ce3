/- The walk of 'beaglelaw08.NaiveFinds': it answers true; nothing that was there is turned. For the statement's proof. -/
import Derived.OpenShut
import Derived.ProofKit
import Derived.Test.YtpogipingefkaaaNvLaw
namespace Go.Proofs.Ytpogipingefkaaa.naiveFinds
open Go.ChangeShapes Go.WideShapes Go.ChangeAt Go.RowKit Cls
set_option linter.unusedVariables false

set_option maxHeartbeats 4000000 in
theorem walk (ao : Option Addr) (n cap : Nat) (P : Nat → Nat → Bool) (K : Int) (s : ByteArray) (i : Int) (w : World) (hp : Lp w ao n P) (hs : s.size ≤ maxLen) (hi : (Lit.int .i64 i).wf = true) :
    Calls Try.prog 4 #[.agg #[.slice ao n cap, .int .i64 K], .string s, .int .i64 i] w fun e w' => e = .returned (.bool true) ∧ Below w.heap.size w w' := by
  obtain ⟨w1, b1⟩ := lbox w (.slice ao n cap) (.int .i64 K)
  have E1 : Hid _ := b1.eq
  have B1 : Hid (Below w.heap.size w w1) := b1.bel
  have c0 := b1.c0
  have c1 := b1.c1
  have CA : Hid _ := fun (v : World) => alive08_any v
  unfold maxLen at hs
  have CF : Hid _ := few08_any n cap ao K s (by omega) hp.small w1
  obtain ⟨hi0, hi1⟩ := bounds_i64 hi
  by_cases hn : n ≤ 100 ∧ s.size ≤ 300
  · have TT : Hid (Lv w w1 w.heap.size ao n cap P K) := ⟨b1.bel, ⟨b1.c0, b1.c1⟩, (hp.grow b1.bel).lf hn.1⟩
    rw [decide_eq_true hn] at CF
    obtain ⟨hn1, hn2⟩ := hn
    obtain ⟨L, hL⟩ : ∃ L, fnd P n K s = L := ⟨_, rfl⟩
    have hLl : L.length ≤ 301 := by rw [← hL]; have := fnd_len P n K s; omega
    obtain ⟨V, hV⟩ : ∃ V, (((fst' (fnd P n K s) i).getD 0 : Nat) : Int) = V := ⟨_, rfl⟩
    obtain ⟨T, hT⟩ : ∃ T, (fst' (fnd P n K s) i).isSome = T := ⟨_, rfl⟩
    have C1 : Hid _ := fun (v : World) (hv : Lf v ao n P) => first_any P n cap ao K i s (by omega) (by omega) v hv
    have C2 : Hid _ := fun (v : World) (hv : Lf v ao n P) => refFirst_any P n cap ao K i s (by omega) v hv
    have C3 : Hid _ := fun (v : World) (hv : Lf v ao n P) => find_any P n cap ao K s (by omega) v hv
    have C4 : Hid _ := fun (v : World) (hv : Lf v ao n P) => refFind_any P n cap ao K s (by omega) v hv
    rw [hL] at C3 C4
    rw [hV, hT] at C1 C2
    obtain ⟨m, hm⟩ : ∃ m, L.length = m := ⟨_, rfl⟩
    have CP : Hid _ := fun (v : World) (xo yo : Option Addr) (d e : Nat) (h1 : Is v xo L) (h2 : Is v yo L) => places_same L m hm (by omega) xo yo d e v h1 h2
    have C3' : Hid (∀ (v : World), Lf v ao n P → Calls Try.prog 18 #[.agg #[.slice ao n cap, .int .i64 K], .string s] v fun e w' => (∃ bo d, e = .returned (.slice bo m d) ∧ Is w' bo L) ∧ Below v.heap.size v w') := fun v hv => (C3.out v hv).mono (fun e w' ⟨⟨bo, d, he, hi, _⟩, hb⟩ => ⟨⟨bo, d, by rw [he, hm], hi⟩, hb⟩)
    have C4' : Hid (∀ (v : World), Lf v ao n P → Calls Try.prog 19 #[.agg #[.slice ao n cap, .int .i64 K], .string s] v fun e w' => (∃ bo d, e = .returned (.slice bo m d) ∧ Is w' bo L) ∧ Below v.heap.size v w') := fun v hv => (C4.out v hv).mono (fun e w' ⟨⟨bo, d, he, hi, _⟩, hb⟩ => ⟨⟨bo, d, by rw [he, hm], hi⟩, hb⟩)
    have et : (T == T) = true := by simp
    clear b1 hp hL hV hT hm C3 C4 B1
    go_enter Try.func4, Try.ntmps4
    go_wp2_with (first | rw [← E1.out])
    clear E1
    refine Calls.mono (Hid.out CF) ?_; rintro e w2 ⟨rfl, b2⟩
    have TB : Hid (Lv w w2 w.heap.size ao n cap P K) := Lv.grow TT.out b2
    clear b2 TT CF c0 c1
    have TT : Hid (Lv w w2 w.heap.size ao n cap P K) := TB.out
    clear TB
    obtain ⟨c0, c1⟩ := TT.out.c
    go_wp2_with fail
    refine Calls.mono (C1.out w2 TT.out.l) ?_; rintro e w3 ⟨rfl, b3⟩
    have TB : Hid (Lv w w3 w.heap.size ao n cap P K) := Lv.grow TT.out b3
    clear b3 TT C1 c0 c1
    have TT : Hid (Lv w w3 w.heap.size ao n cap P K) := TB.out
    clear TB
    obtain ⟨c0, c1⟩ := TT.out.c
    go_wp2_with fail
    refine Calls.mono (C2.out w3 TT.out.l) ?_; rintro e w4 ⟨rfl, b4⟩
    have TB : Hid (Lv w w4 w.heap.size ao n cap P K) := Lv.grow TT.out b4
    clear b4 TT C2 c0 c1
    have TT : Hid (Lv w w4 w.heap.size ao n cap P K) := TB.out
    clear TB
    obtain ⟨c0, c1⟩ := TT.out.c
    go_wp2_with fail
    go_region_held3 (fun w' => w'.cell? ⟨w.heap.size, 0, none⟩ = some (.slice ao n cap) ∧ w'.cell? ⟨w.heap.size, 1, none⟩ = some (.int .i64 K)) (go_keep)
      (first
        | (go_at_call 10; (refine Calls.mono (CA.out _) ?_); rintro e vk ⟨rfl, bb⟩; have TB : Hid (Lv w vk w.heap.size ao n cap P K) := (Lv.grow TT.out (by first | exact undrew bb | exact bb)); clear bb TT c0 c1; have TT : Hid (Lv w vk w.heap.size ao n cap P K) := TB.out; clear TB; obtain ⟨c0, c1⟩ := TT.out.c)
        | (go_at_call 18; (refine Calls.mono (C3'.out _ TT.out.l) ?_); rintro e vk ⟨⟨xo, xc, rfl, hk⟩, bb⟩; have XX : Hid (Is vk xo L) := hk; clear hk; have TB : Hid (Lv w vk w.heap.size ao n cap P K) := (Lv.grow TT.out (by first | exact undrew bb | exact bb)); clear bb TT c0 c1; have TT : Hid (Lv w vk w.heap.size ao n cap P K) := TB.out; clear TB; obtain ⟨c0, c1⟩ := TT.out.c)
        | (go_at_call 19; (refine Calls.mono (C4'.out _ TT.out.l) ?_); rintro e vk ⟨⟨yo, yc, rfl, hk⟩, bb⟩; have YY : Hid (Is vk yo L) := hk; clear hk; have XB : Hid (Is vk xo L) := (Is.grow XX.out (by first | exact undrew bb | exact bb)); have TB : Hid (Lv w vk w.heap.size ao n cap P K) := (Lv.grow TT.out (by first | exact undrew bb | exact bb)); clear bb TT c0 c1 XX; have XX : Hid (Is vk xo L) := XB.out; clear XB; have TT : Hid (Lv w vk w.heap.size ao n cap P K) := TB.out; clear TB; obtain ⟨c0, c1⟩ := TT.out.c)
        | (go_at_call 13; (refine Calls.mono (CP.out _ _ _ _ _ XX.out YY.out) ?_); rintro e vk ⟨rfl, bb⟩; have TB : Hid (Lv w vk w.heap.size ao n cap P K) := (Lv.grow TT.out (by first | exact undrew bb | exact bb)); clear bb TT c0 c1; have TT : Hid (Lv w vk w.heap.size ao n cap P K) := TB.out; clear TB; obtain ⟨c0, c1⟩ := TT.out.c))
    go_wp2_with fail
    go_ret
    exact ⟨rfl, TT.out.bel⟩
  · rw [decide_eq_false hn] at CF
    clear b1 hp hn
    go_enter Try.func4, Try.ntmps4
    go_wp2_with (first | rw [← E1.out])
    clear E1
    refine Calls.mono (Hid.out CF) ?_; rintro e w2 ⟨rfl, b2⟩
    have B2 : Hid (Below w.heap.size w w2) := B1.out.trans (b2.mono B1.out.size)
    clear b2 CF c0 c1
    go_wp2_with fail
    refine Calls.mono (CA.out w2) ?_; rintro e w3 ⟨rfl, b3⟩
    have B3 : Hid (Below w.heap.size w w3) := B2.out.trans (b3.mono B2.out.size)
    clear b3 CA
    go_wp2_with fail
    go_ret
    exact ⟨rfl, B3.out⟩

end Go.Proofs.Ytpogipingefkaaa.naiveFinds
