/- The walk of 'beaglelaw14.QueryPrints': it answers true; nothing that was there is turned. For the statement's proof. -/
import Derived.OpenShut
import Derived.ProofKit
import Derived.Test.YtbnnobeahliffaaGreatDoorQyFew
import Derived.Test.YtbnnobeahliffaaGreatDoorQyB
import Derived.Test.YtbnnobeahliffaaGreatDoorQyA
namespace Go.Proofs.YtbnnobeahliffaaGreatDoor.queryPrints
open Go.ChangeShapes Go.WideShapes Go.ChangeAt Go.RowKit Cls
set_option linter.unusedVariables false

/-- What is printed is parsed as that. -/
theorem print_back {l : List Qn} {T : List Nat} (h : qpt l = some T) (hn : T.length ≤ 1000) : ∃ m, qpar (tbs T) = (m, T.length, 0) ∧ sqr m l = true := by
  unfold qpt at h
  split at h
  · rename_i hq
    obtain ⟨t, ht, hl, h64, h16, hg⟩ := qrg_tree hq
    have hp := qpt_tree ht (by rw [← hl]; exact hq)
    have hT : t.txt = T := by
      have h2 : qpt l = some t.txt := by rw [hl]; exact hp
      unfold qpt at h2
      rw [if_pos hq] at h2
      rw [h] at h2
      injection h2 with h2
      exact h2.symm
    subst hT
    obtain ⟨t', e, ha⟩ := qpar_txt ⟨ht, hg⟩ h64 h16 hn
    exact ⟨t'.flat, e, by rw [hl]; exact qls_sqr (alk_flat ha)⟩
  · cases h

set_option maxRecDepth 100000 in
set_option maxHeartbeats 4000000 in
theorem walk (so : Option Addr) (n cap : Nat) (L : List Qv) (w : World) (hq : Nq w so n cap L) (hT : TabB w) (hX : TabX w) :
    Calls Tryz.prog 4 #[.slice so n cap] w fun e w' => e = .returned (.bool true) ∧ Below w.heap.size w w' := by
  have HQ : Hid _ := hq
  have HT : Hid (T2 w) := ⟨hT, hX⟩
  have CF : Hid _ := few14_any n cap so L hq.len w hq.row
  clear hq hT hX
  cases hf : fewq (qis L) with
  | false =>
    rw [hf] at CF
    go_enter Tryz.func4, Tryz.ntmps4
    go_wp2_with fail
    refine Calls.mono CF.out ?_; rintro e w1 ⟨rfl, b1⟩
    have T1 : Hid _ := HT.out.grow b1
    have B1 : Hid (Below w.heap.size w w1) := b1
    clear b1 CF
    go_wp2_with fail
    refine Calls.mono (alive14_any w1 T1.out.1 T1.out.2) ?_; rintro e w2 ⟨rfl, b2⟩
    have B2 : Hid (Below w.heap.size w w2) := bgrow' B1.out b2
    clear b2 B1 T1
    go_wp2_with fail
    go_ret
    exact ⟨rfl, B2.out⟩
  | true =>
    rw [hf] at CF
    clear hf
    have CP : Hid (∀ v, T2 v → QR v so L → Calls Tryz.prog 11 #[.slice so n cap] v fun e w' => Rdx (qpt (qis L)) e ∧ Below v.heap.size v w') := fun v h hr => qprint_any n cap so L HQ.out.len HQ.out.room HQ.out.cap v hr h.1 h.2
    have CR : Hid (∀ v, QR v so L → Calls Tryz.prog 12 #[.slice so n cap] v fun e w' => Rdx (qpt (qis L)) e ∧ Below v.heap.size v w') := fun v hr => print14_any (fun x v hx => print13_any x v hx) n cap so L HQ.out.len v hr
    unfold Rdx at CP CR
    cases hp : qpt (qis L) with
    | none =>
      rw [hp] at CP CR
      simp only [Option.getD_none, Option.isSome_none] at CP CR
      generalize tbs [] = x at *
      clear hp
      go_enter Tryz.func4, Tryz.ntmps4
      go_wp2_with fail
      refine Calls.mono CF.out ?_; rintro e w1 ⟨rfl, b1⟩
      have T1 : Hid _ := HT.out.grow b1
      have B1 : Hid (Below w.heap.size w w1) := b1
      have Q1 : Hid _ := HQ.out.row.grow b1
      clear b1 CF
      go_wp2_with fail
      refine Calls.mono (CP.out w1 T1.out Q1.out) ?_; rintro e w2 ⟨rfl, b2⟩
      have T2 : Hid _ := T1.out.grow b2
      have B2 : Hid (Below w.heap.size w w2) := bgrow' B1.out b2
      have Q2 : Hid _ := Q1.out.grow b2
      clear b2 B1 T1 Q1 CP
      go_wp2_with fail
      refine Calls.mono (CR.out w2 Q2.out) ?_; rintro e w3 ⟨rfl, b3⟩
      have T3 : Hid _ := T2.out.grow b3
      have B3 : Hid (Below w.heap.size w w3) := bgrow' B2.out b3
      clear b3 B2 T2 Q2 CR
      go_wp2_with fail
      refine Calls.mono (alive14_any w3 T3.out.1 T3.out.2) ?_; rintro e w4 ⟨rfl, b4⟩
      have B4 : Hid (Below w.heap.size w w4) := bgrow' B3.out b4
      clear b4 B3 T3
      go_wp2_with fail
      go_ret
      exact ⟨rfl, B4.out⟩
    | some T =>
      rw [hp] at CP CR
      simp only [Option.getD_some, Option.isSome_some] at CP CR
      have HBK : Hid _ := fun hn => print_back hp hn
      have hsz := tbs_size T
      obtain ⟨x, hx⟩ : ∃ x, tbs T = x := ⟨_, rfl⟩
      have HXE : Hid (tbs T = x) := hx
      rw [hx] at CP CR hsz
      by_cases hn : T.length ≤ 1000
      · have CPA : Hid (∀ v, Calls Tryz.prog 6 #[.string x] v fun e w' => (∃ vo m vc, e = .returned (.tuple #[.slice vo m vc, .int .i64 (T.length : Int), .int .i64 0]) ∧ m ≤ 4398046511104 ∧ ∃ R : List Qv, R.length = m ∧ QR w' vo R ∧ sqr (qis R) (qis L) = true) ∧ Below v.heap.size v w') := fun v => by
          refine Calls.mono (qparse_any x (by omega) v) ?_
          rintro e w' ⟨⟨vo, m, vc, he, R, hm, ho, hq⟩, hb⟩
          obtain ⟨l', e1, e2⟩ := HBK.out hn
          have hfew := qpar_few (tbs T)
          rw [HXE.out] at e1 hfew
          rw [e1] at he hq hfew
          have hq : qis R = l' := hq
          have hm9 : m ≤ 64 := by rw [← hm, ← qis_len, hq]; exact hfew
          exact ⟨⟨vo, m, vc, he, by omega, R, hm, ho.qr hm (by omega), by rw [hq]; exact e2⟩, hb⟩
        have hI : ¬ (1000 : Int) < (x.size : Int) := by omega
        rw [← hsz] at CPA
        clear hp hx HBK HXE hn hsz
        go_enter Tryz.func4, Tryz.ntmps4
        go_wp2_with fail
        refine Calls.mono CF.out ?_; rintro e w1 ⟨rfl, b1⟩
        have T1 : Hid _ := HT.out.grow b1
        have B1 : Hid (Below w.heap.size w w1) := b1
        have Q1 : Hid _ := HQ.out.row.grow b1
        clear b1 CF
        go_wp2_with fail
        refine Calls.mono (CP.out w1 T1.out Q1.out) ?_; rintro e w2 ⟨rfl, b2⟩
        have T2 : Hid _ := T1.out.grow b2
        have B2 : Hid (Below w.heap.size w w2) := bgrow' B1.out b2
        have Q2 : Hid _ := Q1.out.grow b2
        clear b2 B1 T1 Q1 CP
        go_wp2_with fail
        refine Calls.mono (CR.out w2 Q2.out) ?_; rintro e w3 ⟨rfl, b3⟩
        have T3 : Hid _ := T2.out.grow b3
        have B3 : Hid (Below w.heap.size w w3) := bgrow' B2.out b3
        have Q3 : Hid _ := Q2.out.grow b3
        clear b3 B2 T2 Q2 CR
        go_wp2_with fail
        refine Calls.mono (CPA.out w3) ?_; rintro e w4 ⟨⟨vo, m, vc, rfl, hm9, R, hm, hr, hs⟩, b4⟩
        have T4 : Hid _ := T3.out.grow b4
        have B4 : Hid (Below w.heap.size w w4) := bgrow' B3.out b4
        have Q4 : Hid _ := Q3.out.grow b4
        have R4 : Hid (QR w4 vo R) := hr
        have HS : Hid (R.length = m ∧ sqr (qis R) (qis L) = true) := ⟨hm, hs⟩
        clear b4 B3 T3 Q3 CPA hr hs hm
        go_wp2_with fail
        refine Calls.mono (alive14_any w4 T4.out.1 T4.out.2) ?_; rintro e w5 ⟨rfl, b5⟩
        have B5 : Hid (Below w.heap.size w w5) := bgrow' B4.out b5
        have Q5 : Hid _ := Q4.out.grow b5
        have R5 : Hid _ := R4.out.grow b5
        clear b5 B4 T4 Q4 R4
        go_wp2_with fail
        refine Calls.mono (same14_any m n vo so vc cap R L w5 HS.out.1 HQ.out.len R5.out Q5.out) ?_; rintro e w6 ⟨rfl, b6⟩
        have B6 : Hid (Below w.heap.size w w6) := bgrow' B5.out b6
        rw [HS.out.2]
        clear b6 B5 Q5 R5
        go_wp2_with fail
        go_ret
        exact ⟨rfl, B6.out⟩
      · have hI : (1000 : Int) < (x.size : Int) := by omega
        clear hp hx HBK HXE hn hsz
        go_enter Tryz.func4, Tryz.ntmps4
        go_wp2_with fail
        refine Calls.mono CF.out ?_; rintro e w1 ⟨rfl, b1⟩
        have T1 : Hid _ := HT.out.grow b1
        have B1 : Hid (Below w.heap.size w w1) := b1
        have Q1 : Hid _ := HQ.out.row.grow b1
        clear b1 CF
        go_wp2_with fail
        refine Calls.mono (CP.out w1 T1.out Q1.out) ?_; rintro e w2 ⟨rfl, b2⟩
        have T2 : Hid _ := T1.out.grow b2
        have B2 : Hid (Below w.heap.size w w2) := bgrow' B1.out b2
        have Q2 : Hid _ := Q1.out.grow b2
        clear b2 B1 T1 Q1 CP
        go_wp2_with fail
        refine Calls.mono (CR.out w2 Q2.out) ?_; rintro e w3 ⟨rfl, b3⟩
        have T3 : Hid _ := T2.out.grow b3
        have B3 : Hid (Below w.heap.size w w3) := bgrow' B2.out b3
        clear b3 B2 T2 Q2 CR
        go_wp2_with fail
        refine Calls.mono (alive14_any w3 T3.out.1 T3.out.2) ?_; rintro e w4 ⟨rfl, b4⟩
        have B4 : Hid (Below w.heap.size w w4) := bgrow' B3.out b4
        clear b4 B3 T3
        go_wp2_with fail
        go_ret
        exact ⟨rfl, B4.out⟩

end Go.Proofs.YtbnnobeahliffaaGreatDoor.queryPrints
