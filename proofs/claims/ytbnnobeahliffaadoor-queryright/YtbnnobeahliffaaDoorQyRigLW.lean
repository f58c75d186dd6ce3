/- The walk of 'beaglelaw14.QueryRight': it answers true; nothing that was there is turned. For the statement's proof. -/
import Derived.OpenShut
import Derived.ProofKit
import Derived.Test.YtbnnobeahliffaaDoorQyFew
import Derived.Test.YtbnnobeahliffaaDoorQyB
namespace Go.Proofs.YtbnnobeahliffaaDoor.queryRight
open Go.ChangeShapes Go.WideShapes Go.ChangeAt Go.RowKit Cls
set_option linter.unusedVariables false

set_option maxRecDepth 100000 in
set_option maxHeartbeats 4000000 in
theorem walk (so : Option Addr) (n cap : Nat) (L : List Qv) (w : World) (hq : Nq w so n cap L) (hT : TabB w) (hX : TabX w) :
    Calls Tryd.prog 3 #[.slice so n cap] w fun e w' => e = .returned (.bool true) ∧ Below w.heap.size w w' := by
  have HQ : Hid _ := hq
  have HT : Hid (T2 w) := ⟨hT, hX⟩
  have CF : Hid _ := few14_any n cap so L hq.len w hq.row
  clear hq hT hX
  cases hf : fewq (qis L) with
  | false =>
    rw [hf] at CF
    go_enter Tryd.func3, Tryd.ntmps3
    go_wp2_with fail
    refine Calls.mono CF.out ?_; rintro e w1 ⟨rfl, b1⟩
    have T1 : Hid _ := HT.out.grow b1
    have B1 : Hid (Below w.heap.size w w1) := b1
    clear b1 CF
    go_wp2_with fail
    refine Calls.mono (alive14_any w1 T1.out.1 T1.out.2) ?_; rintro e w2 ⟨rfl, b2⟩
    have B2 : Hid (Below w.heap.size w w2) := bgrow' B1.out b2
    clear b2 B1 T1
    go_wp2_with fail
    go_ret
    exact ⟨rfl, B2.out⟩
  | true =>
    rw [hf] at CF
    have hn200 : n ≤ 200 := by
      unfold fewq at hf
      have := (of_decide_eq_true hf).1
      rw [qis_len, HQ.out.len] at this
      exact this
    clear hf
    go_enter Tryd.func3, Tryd.ntmps3
    go_wp2_with fail
    refine Calls.mono CF.out ?_; rintro e w1 ⟨rfl, b1⟩
    have T1 : Hid _ := HT.out.grow b1
    have B1 : Hid (Below w.heap.size w w1) := b1
    have Q1 : Hid _ := HQ.out.row.grow b1
    clear b1 CF
    go_wp2_with fail
    refine Calls.mono (alive14_any w1 T1.out.1 T1.out.2) ?_; rintro e w2 ⟨rfl, b2⟩
    have B2 : Hid (Below w.heap.size w w2) := bgrow' B1.out b2
    have Q2 : Hid _ := Q1.out.grow b2
    clear b2 B1 T1 Q1
    go_wp2_with fail
    refine Calls.mono (qright_any n cap so L HQ.out.len w2 Q2.out) ?_; rintro e w3 ⟨rfl, b3⟩
    have B3 : Hid (Below w.heap.size w w3) := bgrow' B2.out b3
    have Q3 : Hid _ := Q2.out.grow b3
    clear b3 B2 Q2
    go_wp2_with fail
    refine Calls.mono (right14_any n cap so L HQ.out.len w3 Q3.out) ?_; rintro e w4 ⟨rfl, b4⟩
    have B4 : Hid (Below w.heap.size w w4) := bgrow' B3.out b4
    have Q4 : Hid _ := Q3.out.grow b4
    clear b4 B3 Q3
    have qbb : (qrg (qis L) == qrg (qis L)) = true := by simp
    generalize qrg (qis L) = rg at *
    go_wp2_with fail
    refine Calls.mono (qdepth_any n cap so L HQ.out.len (by omega) w4 Q4.out) ?_; rintro e w5 ⟨rfl, b5⟩
    have B5 : Hid (Below w.heap.size w w5) := bgrow' B4.out b5
    have Q5 : Hid _ := Q4.out.grow b5
    clear b5 B4 Q4
    go_wp2_with fail
    refine Calls.mono (depth14_any n cap so L HQ.out.len w5 Q5.out) ?_; rintro e w6 ⟨rfl, b6⟩
    have B6 : Hid (Below w.heap.size w w6) := bgrow' B5.out b6
    clear b6 B5 Q5
    go_wp2_with fail
    go_ret
    exact ⟨rfl, B6.out⟩

end Go.Proofs.YtbnnobeahliffaaDoor.queryRight
