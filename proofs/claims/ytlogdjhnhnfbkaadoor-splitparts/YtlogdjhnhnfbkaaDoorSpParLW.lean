/- The walk of 'beaglelaw12.SplitParts': it answers true; nothing that was there is turned. For the statement's proof. -/
import Derived.OpenShut
import Derived.ProofKit
import Derived.Test.YtlogdjhnhnfbkaaDoorSpC
import Derived.Test.YtlogdjhnhnfbkaaDoorSpB
import Derived.Test.YtlogdjhnhnfbkaaDoorLfA
namespace Go.Proofs.YtlogdjhnhnfbkaaDoor.splitParts
open Go.ChangeShapes Go.WideShapes Go.ChangeAt Go.RowKit Cls
set_option linter.unusedVariables false

set_option maxRecDepth 4000 in
set_option maxHeartbeats 4000000 in
theorem walk (ao : Option Addr) (n cap : Nat) (P : Nat → Nat → Bool) (K least : Int) (w : World) (hp : Lp w ao n P) (hz : (Lit.int .i64 least).wf = true) (hA : Tab w) (hB : TabB w) :
    Calls Tryd.prog 3 #[.agg #[.slice ao n cap, .int .i64 K], .int .i64 least] w fun e w' => e = .returned (.bool true) ∧ Below w.heap.size w w' := by
  obtain ⟨w1, b1⟩ := lbox w (.slice ao n cap) (.int .i64 K)
  have E1 : Hid _ := b1.eq
  have B1 : Hid (Below w.heap.size w w1) := b1.bel
  have A1 : Hid (Tab w1) := tab_grow hA b1.bel
  have AB1 : Hid (TabB w1) := hB.grow b1.bel
  have c0 := b1.c0
  have c1 := b1.c1
  have CA : Hid _ := fun (v : World) (hu : Tab v) (hv : TabB v) => alive12_any v hu hv
  have hsm := hp.small
  have CF : Hid _ := few12_any n cap ao K ⟨#[]⟩ (by decide) hsm w1
  by_cases hn : n ≤ 100
  · rw [decide_eq_true ⟨hn, by decide⟩] at CF
    have TT : Hid (Lx w w1 w.heap.size ao n cap P K) := ⟨b1.bel, ⟨b1.c0, b1.c1⟩, (hp.grow b1.bel).lf hn, A1.out, AB1.out⟩
    have CPa : Hid _ := fun v (hv : Lf v ao n P) => parts12_any P n cap ao K least v hv
    have CT : Hid _ := fun v (hv : Lf v ao n P) => refPart12_any P n cap ao K least true v hv
    have CN : Hid _ := fun v (hv : Lf v ao n P) => refPart12_any P n cap ao K least false v hv
    have CK : Hid _ := fun v (hv : Lf v ao n P) => kinds_any P n cap ao K v hv
    rw [sks_true] at CT
    rw [sks_false] at CN
    have hkl := ks_len P n least
    have hk0 := kd_len P n
    generalize fks P n least = F at *
    generalize rks P n least = R at *
    have CCl : Hid (∀ (L : List (Nat → Bool)) (v : World) (ao bo : Option Addr) (c d : Nat), Lf v ao L.length (at' L) → Lf v bo L.length (at' L) → Calls Tryd.prog 11 #[.slice ao L.length c, .slice bo L.length d] v fun e w' => e = .returned (.bool true) ∧ Below v.heap.size v w') := fun L v ao bo c d h1 h2 => by
      have h := classes_any (at' L) (at' L) L.length L.length c d ao bo v h1 h2
      rw [eqr_refl] at h
      exact h
    have CClF : Hid _ := CCl.out F
    have CClR : Hid _ := CCl.out R
    obtain ⟨f, hf⟩ : ∃ f, F.length = f := ⟨_, rfl⟩
    obtain ⟨r, hr⟩ : ∃ r, R.length = r := ⟨_, rfl⟩
    obtain ⟨k, hk⟩ : ∃ k, (kd P n).length = k := ⟨_, rfl⟩
    rw [hf] at CPa CT CClF hkl
    rw [hr] at CPa CN CClR hkl
    rw [hk] at CK hkl hk0
    have hsum : (f : Int) + (r : Int) = (k : Int) := by omega
    have hws : IntKind.i64.wrap ((f : Int) + (r : Int)) = (k : Int) := by rw [hsum, IntKind.wrap_i64]; omega
    have ekk : ((k : Int) == (k : Int)) = true := by simp
    clear b1 hA hB hp A1 AB1 B1 hz CCl hf hr hk hkl hsum
    go_enter Tryd.func3, Tryd.ntmps3
    go_wp2_with (first | rw [← E1.out])
    clear E1
    refine Calls.mono (Hid.out CF) ?_; rintro e w2 ⟨rfl, b2⟩
    have T2 : Hid (Lx w w2 w.heap.size ao n cap P K) := TT.out.grow b2
    clear b2 TT c0 c1 CF
    obtain ⟨c0, c1⟩ := T2.out.c
    go_wp2_with fail
    refine Calls.mono (CPa.out w2 T2.out.l) ?_; rintro e w3 ⟨⟨fo, fd, ro, rd, rfl, lf, lr⟩, b3⟩
    have T3 : Hid (Lx w w3 w.heap.size ao n cap P K) := T2.out.grow b3
    have F3 : Hid (Lf w3 fo f (at' F)) := lf
    have R3 : Hid (Lf w3 ro r (at' R)) := lr
    clear b3 T2 c0 c1 CPa lf lr
    go_wp2_with fail
    refine Calls.mono (CA.out w3 T3.out.ta T3.out.tb) ?_; rintro e w4 ⟨rfl, b4⟩
    have T4 : Hid (Lx w w4 w.heap.size ao n cap P K) := T3.out.grow b4
    have F4 : Hid (Lf w4 fo f (at' F)) := F3.out.grow b4
    have R4 : Hid (Lf w4 ro r (at' R)) := R3.out.grow b4
    clear b4 T3 F3 R3 CA
    obtain ⟨c0, c1⟩ := T4.out.c
    go_wp2_with fail
    refine Calls.mono (CT.out w4 T4.out.l) ?_; rintro e w5 ⟨⟨go, gd, rfl, lg⟩, b5⟩
    have T5 : Hid (Lx w w5 w.heap.size ao n cap P K) := T4.out.grow b5
    have F5 : Hid (Lf w5 fo f (at' F)) := F4.out.grow b5
    have R5 : Hid (Lf w5 ro r (at' R)) := R4.out.grow b5
    have G5 : Hid (Lf w5 go f (at' F)) := lg
    clear b5 T4 F4 R4 CT lg c0 c1
    go_wp2_with fail
    refine Calls.mono (CClF.out w5 fo go fd gd F5.out G5.out) ?_; rintro e w6 ⟨rfl, b6⟩
    have T6 : Hid (Lx w w6 w.heap.size ao n cap P K) := T5.out.grow b6
    have R6 : Hid (Lf w6 ro r (at' R)) := R5.out.grow b6
    clear b6 T5 F5 R5 G5 CClF
    obtain ⟨c0, c1⟩ := T6.out.c
    go_wp2_with fail
    refine Calls.mono (CN.out w6 T6.out.l) ?_; rintro e w7 ⟨⟨ho, hd, rfl, lh⟩, b7⟩
    have T7 : Hid (Lx w w7 w.heap.size ao n cap P K) := T6.out.grow b7
    have R7 : Hid (Lf w7 ro r (at' R)) := R6.out.grow b7
    have G7 : Hid (Lf w7 ho r (at' R)) := lh
    clear b7 T6 R6 CN lh c0 c1
    go_wp2_with fail
    refine Calls.mono (CClR.out w7 ro ho rd hd R7.out G7.out) ?_; rintro e w8 ⟨rfl, b8⟩
    have T8 : Hid (Lx w w8 w.heap.size ao n cap P K) := T7.out.grow b8
    clear b8 T7 R7 G7 CClR
    obtain ⟨c0, c1⟩ := T8.out.c
    go_wp2_with fail
    refine Calls.mono (CK.out w8 T8.out.l) ?_; rintro e w9 ⟨⟨ko, kc, rfl, _⟩, b9⟩
    have T9 : Hid (Lx w w9 w.heap.size ao n cap P K) := T8.out.grow b9
    clear b9 T8 CK c0 c1
    go_wp2_with fail
    go_ret
    exact ⟨rfl, T9.out.bel⟩
  · rw [decide_eq_false (fun h => hn h.1)] at CF
    clear hn b1 hA hB hp
    go_enter Tryd.func3, Tryd.ntmps3
    go_wp2_with (first | rw [← E1.out])
    refine Calls.mono (Hid.out CF) ?_; rintro e w2 ⟨rfl, b2⟩
    have B2 : Hid (Below w.heap.size w w2) := B1.out.trans (b2.mono B1.out.size)
    have CA2 : Hid _ := CA.out w2 (tab_grow A1.out b2) (AB1.out.grow b2)
    clear b2 CA CF c0 c1 E1
    go_wp2_with fail
    refine Calls.mono (Hid.out CA2) ?_; rintro e w3 ⟨rfl, b3⟩
    have B3 : Hid (Below w.heap.size w w3) := B2.out.trans (b3.mono B2.out.size)
    clear b3 CA2
    go_wp2_with fail
    go_ret
    exact ⟨rfl, B3.out⟩

end Go.Proofs.YtlogdjhnhnfbkaaDoor.splitParts
