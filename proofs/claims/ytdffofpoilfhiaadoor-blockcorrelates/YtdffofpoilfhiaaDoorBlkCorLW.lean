/- The walk of 'beaglelaw05.BlockCorrelates': it answers true; nothing that was there is turned. For the statement's proof. -/
import Derived.OpenShut
import Derived.ProofKit
import Derived.Test.YtdffofpoilfhiaaDoorBlkAli
import Derived.Test.YtdffofpoilfhiaaDoorConvPar
namespace Go.Proofs.YtdffofpoilfhiaaDoor.blockCorrelates
open Go.ChangeShapes Go.WideShapes Go.ChangeAt Go.RowKit Res
set_option linter.unusedVariables false

set_option maxHeartbeats 2000000 in
theorem walk (s : Option Addr) (n cap : Nat) (L : Nat → Int) (s2 : Option Addr) (n2 cap2 : Nat) (L2 : Nat → Int) (z : Int) (w : World) (hl : Sl w s n cap L) (hl2 : Sl w s2 n2 cap2 L2) (wz : (Lit.int .i64 z).wf = true) (hT : Tab w) :
    Calls Tryd.prog 6 #[.slice s n cap, .slice s2 n2 cap2, .int .i64 z] w fun e w' => e = .returned (.bool true) ∧ Below w.heap.size w w' := by
  have al : Hid _ := balive_any
  by_cases hf : n ≤ 300 ∧ n2 ≤ 2000
  · have c0 : Hid _ := bfew_yes s s2 n n2 cap cap2 hf.1 hf.2 w
    have h1 := hf.1
    have h2 := hf.2
    obtain ⟨go, gc, w1, hap0, lg, b1⟩ := copy_of s n cap L w hl
    obtain ⟨ho, hc, w2, hap1, lh, b2⟩ := copy_of s2 n2 cap2 L2 w1 (hl2.below b1)
    have hap : Hid _ := hap0
    have hbp : Hid _ := hap1
    have B2 : Hid (Below w.heap.size w w2) := b1.trans (b2.mono b1.size)
    have T2 : Tab w2 := hT.below B2.out (tab_lt hT)
    have c1 : Hid _ := bcor_any s s2 n n2 cap cap2 z (by omega) (by omega) hl2.le L L2 hl.lo hl2.lo hl.hi hl2.hi w2 T2 (hl.row.below B2.out (Nat.le_refl _)) (hl2.row.below B2.out (Nat.le_refl _))
    have c2 : Hid _ := fun (v : World) (hb : Below w.heap.size w v) => refBcor_any s s2 n n2 cap cap2 z (by omega) (by omega) L L2 hl.lo hl2.lo hl.hi hl2.hi v (hl.row.below hb (Nat.le_refl _)) (hl2.row.below hb (Nat.le_refl _))
    have A2 : Hid (Lies w2 go n L) := lg.below b2 (Nat.le_refl _)
    have D2 : Hid (Lies w2 ho n2 L2) := lh
    have P0 : Hid (Lies w s n L) := hl.row
    have Q0 : Hid (Lies w s2 n2 L2) := hl2.row
    have hN : bl n n2 L L2 z ≤ 2001 := by unfold bl; split; omega; split <;> omega
    clear hl hl2 hf wz hap0 hap1 lg lh b1 b2 hT
    generalize bl n n2 L L2 z = M at *
    generalize bc n n2 L L2 z = C at *
    generalize bq n n2 L L2 z = Q at *
    generalize cr n L L2 = F at *
    have hself : (C == C) = true := beq_iff_eq.2 rfl
    have hself2 : (Q == Q) = true := beq_iff_eq.2 rfl
    go_enter Tryd.func6, Tryd.ntmps6
    go_wp2_with fail
    refine Calls.mono (Hid.out c0) ?_; rintro e w' ⟨rfl, hw'⟩; subst w'
    go_wp2_with (at_builtin; first | (refine wpList_append_eq rfl (.tmp 20) (.tmp 21) 22 rfl _ _ _ _ rfl rfl hap.out ?_) | (refine wpList_append_eq rfl (.tmp 23) (.tmp 24) 22 rfl _ _ _ _ rfl rfl hbp.out ?_))
    go_wp2_with fail
    refine Calls.mono (Hid.out c1) ?_; rintro e w3 ⟨xo, xc, rfl, lx, b3⟩
    have T3 : Tab w3 := T2.below b3 (tab_lt T2)
    have B3 : Hid (Below w.heap.size w w3) := B2.out.trans (b3.mono B2.out.size)
    have c2' : Hid _ := c2.out w3 B3.out
    have X3 : Hid (Lies w3 xo M F) := lx
    have A3 : Hid (Lies w3 go n L) := Lies.below A2.out b3 (Nat.le_refl _)
    have D3 : Hid (Lies w3 ho n2 L2) := Lies.below D2.out b3 (Nat.le_refl _)
    clear lx b3 c1 c2 T2 A2 D2 B2 hap hbp
    go_wp2_with fail
    refine Calls.mono (Hid.out c2') ?_; rintro e w4 ⟨yo, yc, rfl, ly, b4⟩
    have T4 : Tab w4 := T3.below b4 (tab_lt T3)
    have X4 : Hid (Lies w4 xo M F) := Lies.below X3.out b4 (Nat.le_refl _)
    have A4 : Hid (Lies w4 go n L) := Lies.below A3.out b4 (Nat.le_refl _)
    have D4 : Hid (Lies w4 ho n2 L2) := Lies.below D3.out b4 (Nat.le_refl _)
    have Y4 : Hid (Lies w4 yo M F) := ly
    have B4 : Hid (Below w.heap.size w w4) := B3.out.trans (b4.mono B3.out.size)
    have al2 : Hid _ := al.out w4 T4
    clear ly b4 c2' T3 X3 A3 D3 B3 al
    go_wp2_with fail
    refine Calls.mono (Hid.out al2) ?_; rintro e w5 ⟨rfl, b5⟩
    have B5 : Hid (Below w.heap.size w w5) := B4.out.trans (b5.mono B4.out.size)
    have A5 : Hid (Lies w5 go n L) := Lies.below A4.out b5 (Nat.le_refl _)
    have D5 : Hid (Lies w5 ho n2 L2) := Lies.below D4.out b5 (Nat.le_refl _)
    have P5 : Hid (Lies w5 s n L) := Lies.below P0.out B5.out (Nat.le_refl _)
    have Q5 : Hid (Lies w5 s2 n2 L2) := Lies.below Q0.out B5.out (Nat.le_refl _)
    have c3 : Hid _ := same_lies M (by omega) xo yo xc yc F F (fun _ _ => rfl) w5 (Lies.below X4.out b5 (Nat.le_refl _)) (Lies.below Y4.out b5 (Nat.le_refl _))
    clear b5 al2 B4 X4 Y4 A4 D4 T4 P0 Q0
    go_wp2_with fail
    refine Calls.mono (Hid.out c3) ?_; rintro e w6 ⟨rfl, q6, hw6⟩
    have B6 : Hid (Below w.heap.size w w6) := by show Below _ _ _; rw [hw6]; exact below_drewN B5.out q6
    have c4 : Hid _ := same_lies n (by omega) s go cap gc L L (fun _ _ => rfl) w6 (by rw [hw6]; exact P5.out) (by rw [hw6]; exact A5.out)
    have D6 : Hid (Lies w6 ho n2 L2) := by show Lies _ _ _ _; rw [hw6]; exact D5.out
    have Q6 : Hid (Lies w6 s2 n2 L2) := by show Lies _ _ _ _; rw [hw6]; exact Q5.out
    clear hw6 c3 B5 A5 D5 P5 Q5
    go_wp2_with fail
    refine Calls.mono (Hid.out c4) ?_; rintro e w7 ⟨rfl, q7, hw7⟩
    have B7 : Hid (Below w.heap.size w w7) := by show Below _ _ _; rw [hw7]; exact below_drewN B6.out q7
    have c5 : Hid _ := same_lies n2 (by omega) s2 ho cap2 hc L2 L2 (fun _ _ => rfl) w7 (by rw [hw7]; exact Q6.out) (by rw [hw7]; exact D6.out)
    clear hw7 c4 B6 D6 Q6
    go_wp2_with fail
    refine Calls.mono (Hid.out c5) ?_; rintro e w8 ⟨rfl, q8, hw8⟩
    have B8 : Hid (Below w.heap.size w w8) := by show Below _ _ _; rw [hw8]; exact below_drewN B7.out q8
    clear hw8 c5 B7
    go_wp2_with fail
    go_ret
    exact ⟨rfl, B8.out⟩
  · have c0 : Hid _ := bfew_no s s2 n n2 cap cap2 hf w
    have al2 : Hid _ := al.out w hT
    clear hl hl2 hf hT wz al
    go_enter Tryd.func6, Tryd.ntmps6
    go_wp2_with fail
    refine Calls.mono (Hid.out c0) ?_; rintro e w' ⟨rfl, hw'⟩; subst w'
    go_wp2_with fail
    refine Calls.mono (Hid.out al2) ?_; rintro e w3 ⟨rfl, b3⟩
    have B3 : Hid (Below w.heap.size w w3) := b3
    clear b3 al2
    go_wp2_with fail
    go_ret
    exact ⟨rfl, B3.out⟩

end Go.Proofs.YtdffofpoilfhiaaDoor.blockCorrelates
