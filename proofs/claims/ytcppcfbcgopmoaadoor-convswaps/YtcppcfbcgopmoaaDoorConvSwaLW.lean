/- The walk of 'beaglelaw04.ConvSwaps': it answers true; nothing that was there is turned. For the statement's proof. -/
import Derived.OpenShut
import Derived.ProofKit
import Derived.Test.YtcppcfbcgopmoaaDoorConvLaw
namespace Go.Proofs.YtcppcfbcgopmoaaDoor.convSwaps
open Go.ChangeShapes Go.WideShapes Go.ChangeAt Go.RowKit Res
set_option linter.unusedVariables false

set_option maxHeartbeats 2000000 in
theorem walk (s : Option Addr) (n cap : Nat) (L : Nat → Int) (s2 : Option Addr) (n2 cap2 : Nat) (L2 : Nat → Int) (w : World) (hl : Sl w s n cap L) (hl2 : Sl w s2 n2 cap2 L2) (hT : Tab w) :
    Calls Tryd.prog 7 #[.slice s n cap, .slice s2 n2 cap2] w fun e w' => e = .returned (.bool true) ∧ Below w.heap.size w w' := by
  have al : Hid _ := alive_any
  have hr1 := hl.few
  have hr2 := hl2.few
  by_cases hf : 5000 < n + n2
  · have hd : (5000 : Int) < (n : Int) + (n2 : Int) := by omega
    have hd' : decide ((5000 : Int) < (n : Int) + (n2 : Int)) = true := decide_eq_true hd
    have al2 : Hid _ := al.out w hT
    clear hl hl2 hf hT al
    go_enter Tryd.func7, Tryd.ntmps7
    go_wp2_with fail
    refine Calls.mono (Hid.out al2) ?_; rintro e w3 ⟨rfl, b3⟩
    have B3 : Hid (Below w.heap.size w w3) := b3
    clear b3 al2
    go_wp2_with fail
    go_ret
    exact ⟨rfl, B3.out⟩
  have hd : (n : Int) + (n2 : Int) ≤ 5000 := by omega
  have hd' : decide ((5000 : Int) < (n : Int) + (n2 : Int)) = false := decide_eq_false (by omega)
  obtain ⟨q, hq⟩ : ∃ q : Nat, n * n2 = q := ⟨_, rfl⟩
  have hqI : (n : Int) * (n2 : Int) = (q : Int) := by rw [← hq, Int.natCast_mul]
  have hqb : q ≤ 25000000 := by rw [← hq]; exact Nat.le_trans (Nat.mul_le_mul (show n ≤ 5000 by omega) (show n2 ≤ 5000 by omega)) (by decide)
  by_cases hf2 : 1000000 < q
  · have hd2 : (1000000 : Int) < (q : Int) := by omega
    have al2 : Hid _ := al.out w hT
    clear hl hl2 hf hT al hq hf2
    go_enter Tryd.func7, Tryd.ntmps7
    go_wp2_with fail
    refine Calls.mono (Hid.out al2) ?_; rintro e w3 ⟨rfl, b3⟩
    have B3 : Hid (Below w.heap.size w w3) := b3
    clear b3 al2
    go_wp2_with fail
    go_ret
    exact ⟨rfl, B3.out⟩
  have hd2 : (q : Int) ≤ (1000000 : Int) := by omega
  have c1 : Hid _ := fast_any s s2 n n2 cap cap2 (by omega) (by omega) L L2 hl.lo hl2.lo hl.hi hl2.hi w hT hl.row hl2.row
  have c2 : Hid (∀ (v : World), Tab v → Below w.heap.size w v → Calls Tryd.prog 19 #[.slice s2 n2 cap2, .slice s n cap] v fun e w' => Told v (ln n n2 L L2) (cv n n2 L L2) (ec n n2 L L2) e w') := fun v hv hb => by
    have := fast_any s2 s n2 n cap2 cap (by omega) (by omega) L2 L hl2.lo hl.lo hl2.hi hl.hi v hv (hl2.row.below hb (Nat.le_refl _)) (hl.row.below hb (Nat.le_refl _))
    rw [ln_comm n2 n, ec_comm n2 n, show cv n2 n L2 L = cv n n2 L L2 from funext fun t => cv_comm n2 n L2 L t] at this
    exact this
  have c3 : Hid _ := fun (v : World) (hb : Below w.heap.size w v) => school_any s s2 n n2 cap cap2 (by omega) (by omega) L L2 hl.lo hl2.lo hl.hi hl2.hi v (hl.row.below hb (Nat.le_refl _)) (hl2.row.below hb (Nat.le_refl _))
  have hN : ln n n2 L L2 ≤ 4096 := ln_le n n2 L L2
  have hlt := tab_lt hT
  clear hl hl2 hf hq hf2
  generalize ln n n2 L L2 = N at *
  generalize ec n n2 L L2 = E at *
  generalize cv n n2 L L2 = F at *
  go_enter Tryd.func7, Tryd.ntmps7
  go_wp2_with fail
  refine Calls.mono (Hid.out c1) ?_; rintro e w1 ⟨xo, xc, rfl, lx, b1⟩
  have T1 : Tab w1 := hT.below b1 hlt
  have c2' : Hid _ := c2.out w1 T1 b1
  have X1 : Hid (Lies w1 xo N F) := lx
  have B1 : Hid (Below w.heap.size w w1) := b1
  clear lx b1 c1 c2 hT
  go_wp2_with fail
  refine Calls.mono (Hid.out c2') ?_; rintro e w2 ⟨yo, yc, rfl, ly, b2⟩
  have T2 : Tab w2 := T1.below b2 (tab_lt T1)
  have X2 : Hid (Lies w2 xo N F) := Lies.below X1.out b2 (Nat.le_refl _)
  have Y2 : Hid (Lies w2 yo N F) := ly
  have B2 : Hid (Below w.heap.size w w2) := B1.out.trans (b2.mono B1.out.size)
  have c3' : Hid _ := c3.out w2 B2.out
  clear ly b2 c2' T1 X1 B1 c3
  go_wp2_with fail
  refine Calls.mono (Hid.out c3') ?_; rintro e w3 ⟨zo, zc, rfl, lz, b3⟩
  have T3 : Tab w3 := T2.below b3 (tab_lt T2)
  have X3 : Hid (Lies w3 xo N F) := Lies.below X2.out b3 (Nat.le_refl _)
  have Y3 : Hid (Lies w3 yo N F) := Lies.below Y2.out b3 (Nat.le_refl _)
  have Z3 : Hid (Lies w3 zo N F) := lz
  have B3 : Hid (Below w.heap.size w w3) := B2.out.trans (b3.mono B2.out.size)
  have al2 : Hid _ := al.out w3 T3
  clear lz b3 c3' T2 X2 Y2 B2 al
  go_wp2_with fail
  refine Calls.mono (Hid.out al2) ?_; rintro e w4 ⟨rfl, b4⟩
  have B4 : Hid (Below w.heap.size w w4) := B3.out.trans (b4.mono B3.out.size)
  have X4 : Hid (Lies w4 xo N F) := Lies.below X3.out b4 (Nat.le_refl _)
  have Z4 : Hid (Lies w4 zo N F) := Lies.below Z3.out b4 (Nat.le_refl _)
  have c4 : Hid _ := same_lies N (by omega) xo yo xc yc F F (fun _ _ => rfl) w4 X4.out (Lies.below Y3.out b4 (Nat.le_refl _))
  clear b4 al2 B3 X3 Y3 Z3 T3
  go_wp2_with fail
  refine Calls.mono (Hid.out c4) ?_; rintro e w5 ⟨rfl, q5, hw5⟩
  have B5 : Hid (Below w.heap.size w w5) := by show Below _ _ _; rw [hw5]; exact below_drewN B4.out q5
  have c5 : Hid _ := same_lies N (by omega) xo zo xc zc F F (fun _ _ => rfl) w5 (by rw [hw5]; exact X4.out) (by rw [hw5]; exact Z4.out)
  clear hw5 c4 B4 X4 Z4
  go_wp2_with fail
  refine Calls.mono (Hid.out c5) ?_; rintro e w6 ⟨rfl, q6, hw6⟩
  have B6 : Hid (Below w.heap.size w w6) := by show Below _ _ _; rw [hw6]; exact below_drewN B5.out q6
  clear hw6 c5 B5
  go_wp2_with fail
  go_ret
  exact ⟨rfl, B6.out⟩

end Go.Proofs.YtcppcfbcgopmoaaDoor.convSwaps
