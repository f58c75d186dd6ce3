/- The walk of 'beaglelaw05.BlockSizes': it answers true; nothing that was there is turned. For the statement's proof. -/
import Derived.OpenShut
import Derived.ProofKit
import Derived.Test.YtdffofpoilfhiaaDoorBlkAli
import Derived.Test.YtdffofpoilfhiaaDoorArr
namespace Go.Proofs.YtdffofpoilfhiaaDoor.blockSizes
open Go.ChangeShapes Go.WideShapes Go.ChangeAt Go.RowKit Res
set_option linter.unusedVariables false

theorem two_int (w : World) (hT : Tab w) (x y : Int) (ty : TypeId) : ∃ v, v = w.alloc (.cells #[.int .i64 x, .int .i64 y] ty) ∧ Tab v ∧ Below w.heap.size w v ∧ v.cell? ⟨w.heap.size, 0, none⟩ = some (.int .i64 x) ∧ v.cell? ⟨w.heap.size, 1, none⟩ = some (.int .i64 y) ∧ w.heap.size < v.heap.size :=
  ⟨_, rfl, hT.alloc _, (Below.refl _ _).alloc (Nat.le_refl _) _, by simp, by simp, by rw [size_alloc]; omega⟩
theorem sizes_len {n m : Nat} {P T : Nat → Int} {s r : Int} (h : bc n m P T s = 0) (h0 : bc n m P T r = 0) : bl n m P T s = bl n m P T r := by
  by_cases hno : n = 0 ∨ m < n
  · rw [bl_none hno, bl_none hno]
  · rw [bl_ok hno h, bl_ok hno h0]

set_option maxHeartbeats 2000000 in
theorem walk (s : Option Addr) (n cap : Nat) (L : Nat → Int) (s2 : Option Addr) (n2 cap2 : Nat) (L2 : Nat → Int) (x y : Int) (w : World) (hl : Sl w s n cap L) (hl2 : Sl w s2 n2 cap2 L2) (wx : (Lit.int .i64 x).wf = true) (wy : (Lit.int .i64 y).wf = true) (hT : Tab w) :
    Calls Tryd.prog 7 #[.slice s n cap, .slice s2 n2 cap2, .agg #[.int .i64 x, .int .i64 y]] w fun e w' => e = .returned (.bool true) ∧ Below w.heap.size w w' := by
  have al : Hid _ := balive_any
  obtain ⟨v, ev, Tv, bv, cx, cy, sv⟩ := two_int w hT x y 34
  have E0 : Hid _ := ev
  have BV : Hid (Below w.heap.size w v) := bv
  by_cases hf : n ≤ 300 ∧ n2 ≤ 2000
  · have c0 : Hid _ := bfew_yes s s2 n n2 cap cap2 hf.1 hf.2 v
    have h1 := hf.1
    have h2 := hf.2
    have c1 : Hid _ := bcor_any s s2 n n2 cap cap2 x (by omega) (by omega) hl2.le L L2 hl.lo hl2.lo hl.hi hl2.hi v Tv (hl.row.below bv (Nat.le_refl _)) (hl2.row.below bv (Nat.le_refl _))
    have c2 : Hid _ := fun (v : World) (hv : Tab v) (hb : Below w.heap.size w v) => bcor_any s s2 n n2 cap cap2 y (by omega) (by omega) hl2.le L L2 hl.lo hl2.lo hl.hi hl2.hi v hv (hl.row.below hb (Nat.le_refl _)) (hl2.row.below hb (Nat.le_refl _))
    have hN : bl n n2 L L2 x ≤ 2001 := by unfold bl; split; omega; split <;> omega
    have H2 : Hid (bc n n2 L L2 x = 0 → bc n n2 L L2 y = 0 → bl n n2 L L2 x = bl n n2 L L2 y) := fun h h0 => sizes_len h h0
    have cy1 : Hid (∀ w', Below v.heap.size v w' → w'.cell? ⟨w.heap.size, 1, none⟩ = some (.int .i64 y)) := fun w' hb => (hb.cell (p := ⟨w.heap.size, 1, none⟩) sv).trans cy
    clear hl hl2 hf wx wy hT ev bv cy
    generalize bl n n2 L L2 x = N at *
    generalize bc n n2 L L2 x = E at *
    generalize bq n n2 L L2 x = K at *
    generalize bl n n2 L L2 y = M at *
    generalize bc n n2 L L2 y = C at *
    generalize bq n n2 L L2 y = Q at *
    generalize cr n L L2 = F at *
    go_enter Tryd.func7, Tryd.ntmps7
    go_wp2_with fail
    rw [← E0.out]
    refine Calls.mono (Hid.out c0) ?_; rintro e w' ⟨rfl, hw'⟩; subst w'
    clear E0
    go_wp2_with fail
    refine Calls.mono (Hid.out c1) ?_; rintro e w1 ⟨xo, xc, rfl, lx, b1⟩
    have T1 : Tab w1 := Tv.below b1 (tab_lt Tv)
    have B1 : Hid (Below w.heap.size w w1) := BV.out.trans (b1.mono BV.out.size)
    have c2' : Hid _ := c2.out w1 T1 B1.out
    have X1 : Hid (Lies w1 xo N F) := lx
    have cy2 := cy1.out w1 b1
    clear lx b1 c1 c2 Tv cy1
    go_wp2_with fail
    refine Calls.mono (Hid.out c2') ?_; rintro e w2 ⟨yo, yc, rfl, ly, b2⟩
    have T2 : Tab w2 := T1.below b2 (tab_lt T1)
    have X2 : Hid (Lies w2 xo N F) := Lies.below X1.out b2 (Nat.le_refl _)
    have Y2 : Hid (Lies w2 yo M F) := ly
    have B2 : Hid (Below w.heap.size w w2) := B1.out.trans (b2.mono B1.out.size)
    have al2 : Hid _ := al.out w2 T2
    clear ly b2 c2' T1 X1 B1 al cy2
    go_wp2_with fail
    refine Calls.mono (Hid.out al2) ?_; rintro e w3 ⟨rfl, b3⟩
    have B3 : Hid (Below w.heap.size w w3) := B2.out.trans (b3.mono B2.out.size)
    by_cases hE : E = 0
    · subst hE
      by_cases hC : C = 0
      · subst hC
        obtain rfl := H2.out rfl rfl
        have c3 : Hid _ := same_lies N (by omega) xo yo xc yc F F (fun _ _ => rfl) w3 (Lies.below X2.out b3 (Nat.le_refl _)) (Lies.below Y2.out b3 (Nat.le_refl _))
        clear b3 al2 B2 X2 Y2 T2 H2
        go_wp2_with fail
        refine Calls.mono (Hid.out c3) ?_; rintro e w4 ⟨rfl, q, hw4⟩
        have B4 : Hid (Below w.heap.size w w4) := by show Below _ _ _; rw [hw4]; exact below_drewN B3.out q
        clear hw4 c3 B3
        go_wp2_with fail
        go_ret
        exact ⟨rfl, B4.out⟩
      · have e0 : (C == 0) = false := beq_eq_false_iff_ne.2 hC
        clear b3 al2 B2 X2 Y2 T2 H2
        go_wp2_with fail
        go_ret
        exact ⟨rfl, B3.out⟩
    · have e0 : (E == 0) = false := beq_eq_false_iff_ne.2 hE
      clear b3 al2 B2 X2 Y2 T2 H2
      go_wp2_with fail
      go_ret
      exact ⟨rfl, B3.out⟩
  · have c0 : Hid _ := bfew_no s s2 n n2 cap cap2 hf v
    have al2 : Hid _ := al.out v Tv
    clear hl hl2 hf hT wx wy al ev bv
    go_enter Tryd.func7, Tryd.ntmps7
    go_wp2_with fail
    rw [← E0.out]
    refine Calls.mono (Hid.out c0) ?_; rintro e w' ⟨rfl, hw'⟩; subst w'
    clear E0
    go_wp2_with fail
    refine Calls.mono (Hid.out al2) ?_; rintro e w3 ⟨rfl, b3⟩
    have B3 : Hid (Below w.heap.size w w3) := BV.out.trans (b3.mono BV.out.size)
    clear b3 al2
    go_wp2_with fail
    go_ret
    exact ⟨rfl, B3.out⟩

end Go.Proofs.YtdffofpoilfhiaaDoor.blockSizes
