/- The walk of 'beaglelaw09.ZedFinds': it answers true; nothing that was there is turned. For the statement's proof. -/
import Derived.OpenShut
import Derived.ProofKit
import Derived.Test.YtgdjllfolfiboaaDoorZdLaw
namespace Go.Proofs.YtgdjllfolfiboaaDoor.zedFinds
open Go.ChangeShapes Go.WideShapes Go.ChangeAt Go.RowKit Cls
set_option linter.unusedVariables false

set_option maxHeartbeats 4000000 in
theorem walk (p t : ByteArray) (w : World) (hp : p.size ≤ maxLen) (ht : t.size ≤ maxLen) (hT : TabB w) :
    Calls Tryd.prog 4 #[.string p, .string t] w fun e w' => e = .returned (.bool true) ∧ Below w.heap.size w w' := by
  have HT : Hid (Tw w w) := Tw.refl hT
  have CA : Hid _ := fun (v : World) (hv : TabB v) => alive09_any v hv
  unfold maxLen at hp ht
  clear hT
  by_cases hn : p.size ≤ 500 ∧ t.size ≤ 500
  · obtain ⟨hn1, hn2⟩ := hn
    have hnI : ¬ (500 : Int) < (p.size : Int) := by omega
    have hnJ : ¬ (500 : Int) < (t.size : Int) := by omega
    obtain ⟨m, hm⟩ : ∃ m, (fdl p t).length = m := ⟨_, rfl⟩
    have hml : m ≤ 500 := by rw [← hm]; have := fdl_len p t; omega
    have C1 : Hid _ := fun (v : World) => (find09_any p t (by omega) (by omega) v).mono (fun _ _ h => told_len hm h)
    have C2 : Hid _ := fun (v : World) => (refFind09_any p t (by omega) (by omega) v).mono (fun _ _ h => told_len hm h)
    obtain ⟨L, hL⟩ : ∃ L, fdl p t = L := ⟨_, rfl⟩
    have CP : Hid _ := fun (v : World) (xo yo : Option Addr) (d e : Nat) (h1 : Is v xo L) (h2 : Is v yo L) => places_same L m (by rw [← hL]; exact hm) (by omega) xo yo d e v h1 h2
    rw [hL] at C1 C2
    clear hL hm
    go_enter Tryd.func4, Tryd.ntmps4
    go_wp2_with fail
    refine Calls.mono (CA.out w HT.out.tab) ?_; rintro e w1 ⟨rfl, b1⟩
    have T1 : Hid (Tw w w1) := Tw.grow HT.out b1
    clear b1 HT CA
    go_wp2_with fail
    refine Calls.mono (C1.out w1) ?_; rintro e w2 ⟨⟨xo, xc, rfl, hx⟩, b2⟩
    have T2 : Hid (Tw w w2) := Tw.grow T1.out b2
    have HX : Hid (Is w2 xo L) := hx
    clear b2 T1 C1 hx
    go_wp2_with fail
    refine Calls.mono (C2.out w2) ?_; rintro e w3 ⟨⟨yo, yc, rfl, hy⟩, b3⟩
    have T3 : Hid (Tw w w3) := Tw.grow T2.out b3
    have HP : Hid _ := CP.out w3 xo yo xc yc (Is.grow HX.out b3) hy
    clear b3 T2 C2 hy HX CP
    go_wp2_with fail
    refine Calls.mono (Hid.out HP) ?_; rintro e w4 ⟨rfl, b4⟩
    have T4 : Hid (Tw w w4) := Tw.grow T3.out b4
    clear b4 T3 HP
    go_wp2_with fail
    go_ret
    exact ⟨rfl, T4.out.bel⟩
  · have hb : (500 : Int) < (p.size : Int) ∨ (¬ (500 : Int) < (p.size : Int) ∧ (500 : Int) < (t.size : Int)) := by omega
    clear hn
    rcases hb with hnI | ⟨hnI, hnJ⟩
    all_goals
      go_enter Tryd.func4, Tryd.ntmps4
      go_wp2_with fail
      refine Calls.mono (CA.out w HT.out.tab) ?_; rintro e w1 ⟨rfl, b1⟩
      have T1 : Hid (Tw w w1) := Tw.grow HT.out b1
      clear b1 HT CA
      go_wp2_with fail
      go_ret
      exact ⟨rfl, T1.out.bel⟩

end Go.Proofs.YtgdjllfolfiboaaDoor.zedFinds
