/- The walk of 'beaglelaw09.ZedRows': it answers true; nothing that was there is turned. For the statement's proof. -/
import Derived.OpenShut
import Derived.ProofKit
import Derived.Test.YtgdjllfolfiboaaDoorZdLaw
namespace Go.Proofs.YtgdjllfolfiboaaDoor.zedRows
open Go.ChangeShapes Go.WideShapes Go.ChangeAt Go.RowKit Cls
set_option linter.unusedVariables false

set_option maxHeartbeats 4000000 in
theorem walk (s : ByteArray) (w : World) (hs : s.size ≤ maxLen) (hT : TabB w) :
    Calls Tryd.prog 3 #[.string s] w fun e w' => e = .returned (.bool true) ∧ Below w.heap.size w w' := by
  have HT : Hid (Tw w w) := Tw.refl hT
  have CA : Hid _ := fun (v : World) (hv : TabB v) => alive09_any v hv
  unfold maxLen at hs
  clear hT
  by_cases hn : s.size ≤ 500
  · have hnI : ¬ (500 : Int) < (s.size : Int) := by omega
    have C1 : Hid _ := fun (v : World) => (rows_any s (by omega) v).mono (fun _ _ h => told_len (rwl_len s) h)
    have C2 : Hid _ := fun (v : World) => (refRows_any s (by omega) v).mono (fun _ _ h => told_len (rwl_len s) h)
    obtain ⟨L, hL⟩ : ∃ L, rwl s = L := ⟨_, rfl⟩
    have hLl : L.length = s.size := by rw [← hL]; exact rwl_len s
    have CP : Hid _ := fun (v : World) (xo yo : Option Addr) (d e : Nat) (h1 : Is v xo L) (h2 : Is v yo L) => places_same L s.size hLl (by omega) xo yo d e v h1 h2
    rw [hL] at C1 C2
    clear hL hLl
    go_enter Tryd.func3, Tryd.ntmps3
    go_wp2_with fail
    refine Calls.mono (CA.out w HT.out.tab) ?_; rintro e w1 ⟨rfl, b1⟩
    have T1 : Hid (Tw w w1) := Tw.grow HT.out b1
    clear b1 HT CA
    go_wp2_with fail
    refine Calls.mono (C1.out w1) ?_; rintro e w2 ⟨⟨xo, xc, rfl, hx⟩, b2⟩
    have T2 : Hid (Tw w w2) := Tw.grow T1.out b2
    have HX : Hid (Is w2 xo L) := hx
    clear b2 T1 C1 hx
    go_wp2_with fail
    refine Calls.mono (C2.out w2) ?_; rintro e w3 ⟨⟨yo, yc, rfl, hy⟩, b3⟩
    have T3 : Hid (Tw w w3) := Tw.grow T2.out b3
    have HP : Hid _ := CP.out w3 xo yo xc yc (Is.grow HX.out b3) hy
    clear b3 T2 C2 hy HX CP
    go_wp2_with fail
    refine Calls.mono (Hid.out HP) ?_; rintro e w4 ⟨rfl, b4⟩
    have T4 : Hid (Tw w w4) := Tw.grow T3.out b4
    clear b4 T3 HP
    go_wp2_with fail
    go_ret
    exact ⟨rfl, T4.out.bel⟩
  · have hnI : (500 : Int) < (s.size : Int) := by omega
    go_enter Tryd.func3, Tryd.ntmps3
    go_wp2_with fail
    refine Calls.mono (CA.out w HT.out.tab) ?_; rintro e w1 ⟨rfl, b1⟩
    have T1 : Hid (Tw w w1) := Tw.grow HT.out b1
    clear b1 HT CA
    go_wp2_with fail
    go_ret
    exact ⟨rfl, T1.out.bel⟩

end Go.Proofs.YtgdjllfolfiboaaDoor.zedRows
