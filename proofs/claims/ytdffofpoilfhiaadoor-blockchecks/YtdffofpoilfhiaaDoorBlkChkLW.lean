/- The walk of 'beaglelaw05.BlockChecks': it answers true; nothing that was there is turned. For the statement's proof. -/
import Derived.OpenShut
import Derived.ProofKit
import Derived.Test.YtdffofpoilfhiaaDoorBlkAli
namespace Go.Proofs.YtdffofpoilfhiaaDoor.blockChecks
open Go.ChangeShapes Go.WideShapes Go.ChangeAt Go.RowKit Res
set_option linter.unusedVariables false

set_option maxHeartbeats 2000000 in
theorem walk (s : Option Addr) (n cap : Nat) (L : Nat → Int) (s2 : Option Addr) (n2 cap2 : Nat) (L2 : Nat → Int) (z : Int) (w : World) (hl : Sl w s n cap L) (hl2 : Sl w s2 n2 cap2 L2) (w2 : (Lit.int .i64 z).wf = true) (hT : Tab w) :
    Calls Tryd.prog 3 #[.slice s n cap, .slice s2 n2 cap2, .int .i64 z] w fun e w' => e = .returned (.bool true) ∧ Below w.heap.size w w' := by
  have al : Hid _ := balive_any w hT
  by_cases hf : n ≤ 300 ∧ n2 ≤ 2000
  · have c0 : Hid _ := bfew_yes s s2 n n2 cap cap2 hf.1 hf.2 w
    have h1 := hf.1
    have h2 := hf.2
    have c1 : Hid _ := fun (v : World) (hb : Below w.heap.size w v) => bcheck_any s s2 n n2 cap cap2 z (by omega) (by omega) L L2 hl.hi hl2.hi v (hl.row.below hb (Nat.le_refl _)) (hl2.row.below hb (Nat.le_refl _))
    have c2 : Hid _ := fun (v : World) (hb : Below w.heap.size w v) => refBcheck_any s s2 n n2 cap cap2 z (by omega) (by omega) L L2 hl.hi hl2.hi v (hl.row.below hb (Nat.le_refl _)) (hl2.row.below hb (Nat.le_refl _))
    clear hl hl2 hf w2 hT
    generalize bc n n2 L L2 z = E at *
    have hself : (E == E) = true := beq_iff_eq.2 rfl
    go_enter Tryd.func3, Tryd.ntmps3
    go_wp2_with fail
    refine Calls.mono (Hid.out c0) ?_; rintro e w' ⟨rfl, hw'⟩; subst w'
    go_wp2_with fail
    refine Calls.mono (Hid.out al) ?_; rintro e w1 ⟨rfl, hb⟩
    have HB : Hid _ := hb
    clear hb
    go_wp2_with fail
    refine Calls.mono (c1.out w1 HB.out) ?_; rintro e w' ⟨rfl, hw'⟩; subst w'
    go_wp2_with fail
    refine Calls.mono (c2.out w1 HB.out) ?_; rintro e w' ⟨rfl, hw'⟩; subst w'
    go_wp2_with fail
    go_ret
    exact ⟨rfl, HB.out⟩
  · have c0 : Hid _ := bfew_no s s2 n n2 cap cap2 hf w
    clear hl hl2 hf hT w2
    go_enter Tryd.func3, Tryd.ntmps3
    go_wp2_with fail
    refine Calls.mono (Hid.out c0) ?_; rintro e w' ⟨rfl, hw'⟩; subst w'
    go_wp2_with fail
    refine Calls.mono (Hid.out al) ?_; rintro e w3 ⟨rfl, b3⟩
    have B3 : Hid (Below w.heap.size w w3) := b3
    clear b3
    go_wp2_with fail
    go_ret
    exact ⟨rfl, B3.out⟩

end Go.Proofs.YtdffofpoilfhiaaDoor.blockChecks
