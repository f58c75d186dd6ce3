/- The walk of 'beaglelaw05.BlockConv': it answers true; nothing that was there is turned. For the statement's proof. -/
import Derived.OpenShut
import Derived.ProofKit
import Derived.Test.YtdffofpoilfhiaaDoorBlkAli
namespace Go.Proofs.YtdffofpoilfhiaaDoor.blockConv
open Go.ChangeShapes Go.WideShapes Go.ChangeAt Go.RowKit Res
set_option linter.unusedVariables false

theorem conv_big {n m : Nat} {P T : Nat → Int} {s : Int} (h : kc n m P T = 40) : ¬ bc n m P T s = 0 := by
  intro h0
  by_cases hno : n = 0 ∨ m < n
  · rw [kc_none hno] at h; cases h
  · rw [kc_some hno] at h
    cases hz : szb n s with
    | false => rw [bc_size hno hz] at h0; cases h0
    | true =>
      by_cases hb : 18446744073709551616 ≤ gr n P * gr m T * (n : Int)
      · rw [bc_big hno hz hb] at h0; cases h0
      · unfold er at h
        rw [Nat.min_eq_left (by omega : n ≤ m)] at h
        split at h <;> simp_all
theorem conv_len {n m : Nat} {P T : Nat → Int} {s : Int} (h : kc n m P T = 0) (h0 : bc n m P T s = 0) : kl n m P T = bl n m P T s := by
  by_cases hno : n = 0 ∨ m < n
  · rw [kl_none hno, bl_none hno]
  · rw [kc_some hno] at h
    rw [kl_ok hno h, bl_ok hno h0]

set_option maxHeartbeats 2000000 in
theorem walk (s : Option Addr) (n cap : Nat) (L : Nat → Int) (s2 : Option Addr) (n2 cap2 : Nat) (L2 : Nat → Int) (z : Int) (w : World) (hl : Sl w s n cap L) (hl2 : Sl w s2 n2 cap2 L2) (w2 : (Lit.int .i64 z).wf = true) (hT : Tab w) :
    Calls Tryd.prog 8 #[.slice s n cap, .slice s2 n2 cap2, .int .i64 z] w fun e w' => e = .returned (.bool true) ∧ Below w.heap.size w w' := by
  have al : Hid _ := balive_any
  by_cases hf : n ≤ 300 ∧ n2 ≤ 2000
  · have c0 : Hid _ := bfew_yes s s2 n n2 cap cap2 hf.1 hf.2 w
    have h1 := hf.1
    have h2 := hf.2
    have c1 : Hid _ := bcor_any s s2 n n2 cap cap2 z (by omega) (by omega) hl2.le L L2 hl.lo hl2.lo hl.hi hl2.hi w hT hl.row hl2.row
    have c2 : Hid _ := fun (v : World) (hb : Below w.heap.size w v) => correlate_any s s2 n n2 cap cap2 (by omega) (by omega) L L2 hl.lo hl2.lo hl.hi hl2.hi v (hl.row.below hb (Nat.le_refl _)) (hl2.row.below hb (Nat.le_refl _))
    have hN : kl n n2 L L2 ≤ 4097 := kl_le n n2 L L2
    have H1 : Hid (kc n n2 L L2 = 40 → ¬ bc n n2 L L2 z = 0) := fun h => conv_big h
    have H2 : Hid (kc n n2 L L2 = 0 → bc n n2 L L2 z = 0 → kl n n2 L L2 = bl n n2 L L2 z) := fun h h0 => conv_len h h0
    have hlt := tab_lt hT
    clear hl hl2 hf w2
    generalize kl n n2 L L2 = N at *
    generalize kc n n2 L L2 = E at *
    generalize bl n n2 L L2 z = M at *
    generalize bc n n2 L L2 z = C at *
    generalize bq n n2 L L2 z = Q at *
    generalize cr n L L2 = F at *
    go_enter Tryd.func8, Tryd.ntmps8
    go_wp2_with fail
    refine Calls.mono (Hid.out c0) ?_; rintro e w' ⟨rfl, hw'⟩; subst w'
    go_wp2_with fail
    refine Calls.mono (Hid.out c1) ?_; rintro e w1 ⟨xo, xc, rfl, lx, b1⟩
    have T1 : Tab w1 := hT.below b1 hlt
    have c2' : Hid _ := c2.out w1 b1
    have X1 : Hid (Lies w1 xo M F) := lx
    have B1 : Hid (Below w.heap.size w w1) := b1
    clear lx b1 c1 c2 hT
    go_wp2_with fail
    refine Calls.mono (Hid.out c2') ?_; rintro e w2 ⟨yo, yc, rfl, ly, b2⟩
    have T2 : Tab w2 := T1.below b2 (tab_lt T1)
    have X2 : Hid (Lies w2 xo M F) := Lies.below X1.out b2 (Nat.le_refl _)
    have Y2 : Hid (Lies w2 yo N F) := ly
    have B2 : Hid (Below w.heap.size w w2) := B1.out.trans (b2.mono B1.out.size)
    have al2 : Hid _ := al.out w2 T2
    clear ly b2 c2' T1 X1 B1 al
    go_wp2_with fail
    refine Calls.mono (Hid.out al2) ?_; rintro e w3 ⟨rfl, b3⟩
    have B3 : Hid (Below w.heap.size w w3) := B2.out.trans (b3.mono B2.out.size)
    by_cases hC : C = 0
    · subst hC
      have hE40 : ¬ E = 40 := fun h => H1.out h rfl
      have e40 : (E == 40) = false := beq_eq_false_iff_ne.2 hE40
      by_cases hE : E = 0
      · subst hE
        obtain rfl := H2.out rfl rfl
        have c3 : Hid _ := same_lies N (by omega) xo yo xc yc F F (fun _ _ => rfl) w3 (Lies.below X2.out b3 (Nat.le_refl _)) (Lies.below Y2.out b3 (Nat.le_refl _))
        clear b3 al2 B2 X2 Y2 T2 H1 H2 hE40
        go_wp2_with fail
        refine Calls.mono (Hid.out c3) ?_; rintro e w4 ⟨rfl, q, hw4⟩
        have B4 : Hid (Below w.heap.size w w4) := by show Below _ _ _; rw [hw4]; exact below_drewN B3.out q
        clear hw4 c3 B3
        go_wp2_with fail
        go_ret
        exact ⟨rfl, B4.out⟩
      · have e0 : (E == 0) = false := beq_eq_false_iff_ne.2 hE
        clear b3 al2 B2 X2 Y2 T2 H1 H2
        go_wp2_with fail
        go_ret
        exact ⟨rfl, B3.out⟩
    · have e0 : (C == 0) = false := beq_eq_false_iff_ne.2 hC
      clear b3 al2 B2 X2 Y2 T2 H1 H2
      by_cases hE : E = 40
      · subst hE
        have n0 : (C != 0) = true := by simp [bne, e0]
        go_wp2_with fail
        go_ret
        exact ⟨rfl, B3.out⟩
      · have e40 : (E == 40) = false := beq_eq_false_iff_ne.2 hE
        go_wp2_with fail
        go_ret
        exact ⟨rfl, B3.out⟩
  · have c0 : Hid _ := bfew_no s s2 n n2 cap cap2 hf w
    have al2 : Hid _ := al.out w hT
    clear hl hl2 hf hT w2 al
    go_enter Tryd.func8, Tryd.ntmps8
    go_wp2_with fail
    refine Calls.mono (Hid.out c0) ?_; rintro e w' ⟨rfl, hw'⟩; subst w'
    go_wp2_with fail
    refine Calls.mono (Hid.out al2) ?_; rintro e w3 ⟨rfl, b3⟩
    have B3 : Hid (Below w.heap.size w w3) := b3
    clear b3 al2
    go_wp2_with fail
    go_ret
    exact ⟨rfl, B3.out⟩

end Go.Proofs.YtdffofpoilfhiaaDoor.blockConv
