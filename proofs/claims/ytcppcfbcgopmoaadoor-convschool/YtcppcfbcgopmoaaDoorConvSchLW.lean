/- The walk of 'beaglelaw04.ConvSchool': it answers true; nothing that was there is turned. For the statement's proof. -/
import Derived.OpenShut
import Derived.ProofKit
import Derived.Test.YtcppcfbcgopmoaaDoorConvLaw
namespace Go.Proofs.YtcppcfbcgopmoaaDoor.convSchool
open Go.ChangeShapes Go.WideShapes Go.ChangeAt Go.RowKit Res
set_option linter.unusedVariables false

set_option maxHeartbeats 2000000 in
theorem walk (s : Option Addr) (n cap : Nat) (L : Nat → Int) (s2 : Option Addr) (n2 cap2 : Nat) (L2 : Nat → Int) (w : World) (hl : Sl w s n cap L) (hl2 : Sl w s2 n2 cap2 L2) (hT : Tab w) :
    Calls Tryd.prog 4 #[.slice s n cap, .slice s2 n2 cap2] w fun e w' => e = .returned (.bool true) ∧ Below w.heap.size w w' := by
  have al : Hid _ := alive_any
  by_cases hf : n ≤ 300 ∧ n2 ≤ 300
  · have c0 : Hid _ := few_yes s s2 n n2 cap cap2 hf.1 hf.2 w
    have h1 := hf.1
    have h2 := hf.2
    have c1 : Hid _ := school_any s s2 n n2 cap cap2 (by omega) (by omega) L L2 hl.lo hl2.lo hl.hi hl2.hi w hl.row hl2.row
    have c2 : Hid _ := fun (v : World) (hb : Below w.heap.size w v) => refProduct_any s s2 n n2 cap cap2 (by omega) (by omega) L L2 hl.lo hl2.lo hl.hi hl2.hi v (hl.row.below hb (Nat.le_refl _)) (hl2.row.below hb (Nat.le_refl _))
    have hN : ln n n2 L L2 ≤ 4097 := Nat.le_trans (ln_le n n2 L L2) (by omega)
    have hlt := tab_lt hT
    clear hl hl2 hf
    generalize ln n n2 L L2 = N at *
    generalize ec n n2 L L2 = E at *
    generalize cv n n2 L L2 = F at *
    go_enter Tryd.func4, Tryd.ntmps4
    go_wp2_with fail
    refine Calls.mono (Hid.out c0) ?_; rintro e w' ⟨rfl, hw'⟩; subst w'
    go_wp2_with fail
    refine Calls.mono (Hid.out c1) ?_; rintro e w1 ⟨xo, xc, rfl, lx, b1⟩
    have T1 : Tab w1 := hT.below b1 hlt
    have c2' : Hid _ := c2.out w1 b1
    have X1 : Hid (Lies w1 xo N F) := lx
    have B1 : Hid (Below w.heap.size w w1) := b1
    clear lx b1 c1 c2 hT
    go_wp2_with fail
    refine Calls.mono (Hid.out c2') ?_; rintro e w2 ⟨yo, yc, rfl, ly, b2⟩
    have T2 : Tab w2 := T1.below b2 (tab_lt T1)
    have X2 : Hid (Lies w2 xo N F) := Lies.below X1.out b2 (Nat.le_refl _)
    have Y2 : Hid (Lies w2 yo N F) := ly
    have B2 : Hid (Below w.heap.size w w2) := B1.out.trans (b2.mono B1.out.size)
    have al2 : Hid _ := al.out w2 T2
    clear ly b2 c2' T1 X1 B1 al
    go_wp2_with fail
    refine Calls.mono (Hid.out al2) ?_; rintro e w3 ⟨rfl, b3⟩
    have B3 : Hid (Below w.heap.size w w3) := B2.out.trans (b3.mono B2.out.size)
    have c3 : Hid _ := same_lies N (by omega) xo yo xc yc F F (fun _ _ => rfl) w3 (Lies.below X2.out b3 (Nat.le_refl _)) (Lies.below Y2.out b3 (Nat.le_refl _))
    clear b3 al2 B2 X2 Y2 T2
    go_wp2_with fail
    refine Calls.mono (Hid.out c3) ?_; rintro e w4 ⟨rfl, q, hw4⟩
    have B4 : Hid (Below w.heap.size w w4) := by show Below _ _ _; rw [hw4]; exact below_drewN B3.out q
    clear hw4 c3 B3
    go_wp2_with fail
    go_ret
    exact ⟨rfl, B4.out⟩
  · have c0 : Hid _ := few_no s s2 n n2 cap cap2 hf w
    have al2 : Hid _ := al.out w hT
    clear hl hl2 hf hT al
    go_enter Tryd.func4, Tryd.ntmps4
    go_wp2_with fail
    refine Calls.mono (Hid.out c0) ?_; rintro e w' ⟨rfl, hw'⟩; subst w'
    go_wp2_with fail
    refine Calls.mono (Hid.out al2) ?_; rintro e w3 ⟨rfl, b3⟩
    have B3 : Hid (Below w.heap.size w w3) := b3
    clear b3 al2
    go_wp2_with fail
    go_ret
    exact ⟨rfl, B3.out⟩

end Go.Proofs.YtcppcfbcgopmoaaDoor.convSchool
