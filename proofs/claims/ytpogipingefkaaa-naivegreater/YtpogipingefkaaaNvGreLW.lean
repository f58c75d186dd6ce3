/- The walk of 'beaglelaw08.NaiveGreater': it answers true; nothing that was there is turned. For the statement's proof. -/
import Derived.OpenShut
import Derived.ProofKit
import Derived.Test.YtpogipingefkaaaNvGre
import Derived.Deep.DeepCutAuto
namespace Go.Proofs.Ytpogipingefkaaa.naiveGreater
open Go.ChangeShapes Go.WideShapes Go.ChangeAt Go.RowKit Cls
set_option linter.unusedVariables false

set_option maxRecDepth 4000 in
set_option maxHeartbeats 8000000 in
theorem walk (ao : Option Addr) (n cap : Nat) (P : Nat → Nat → Bool) (K : Int) (s : ByteArray) (k : Int) (w : World) (hp : Lp w ao n P) (hs : s.size ≤ maxLen) (hi : (Lit.int .i64 k).wf = true) :
    Calls Try.prog 8 #[.agg #[.slice ao n cap, .int .i64 K], .string s, .int .i64 k] w fun e w' => e = .returned (.bool true) ∧ Below w.heap.size w w' := by
  obtain ⟨w1, b1⟩ := lbox w (.slice ao n cap) (.int .i64 K)
  have E1 : Hid _ := b1.eq
  have B1 : Hid (Below w.heap.size w w1) := b1.bel
  have c0 := b1.c0
  have c1 := b1.c1
  have CA : Hid _ := fun (v : World) => alive08_any v
  unfold maxLen at hs
  have CF : Hid _ := few08_any n cap ao K s (by omega) hp.small w1
  by_cases hn : n ≤ 100 ∧ s.size ≤ 300
  · have TT : Hid (Lv w w1 w.heap.size ao n cap P K) := ⟨b1.bel, ⟨b1.c0, b1.c1⟩, (hp.grow b1.bel).lf hn.1⟩
    rw [decide_eq_true hn] at CF
    obtain ⟨hn1, hn2⟩ := hn
    clear b1 hp B1
    go_enter Try.func8, Try.ntmps8
    go_wp2_with (first | rw [← E1.out])
    clear E1
    refine Calls.mono (Hid.out CF) ?_; rintro e w2 ⟨rfl, bw2⟩
    have TB : Hid (Lv w w2 w.heap.size ao n cap P K) := TT.out.grow bw2
    clear bw2 TT c0 c1
    have TT : Hid (Lv w w2 w.heap.size ao n cap P K) := TB.out
    clear TB
    obtain ⟨c0, c1⟩ := TT.out.c
    have c2 : Hid _ := refRight_any P n cap ao K w2 TT.out.l
    clear CF
    cases hr : rgt P n K with
    | false =>
      rw [hr] at c2
      go_wp2_with fail
      refine Calls.mono (Hid.out c2) ?_; rintro e w3 ⟨rfl, bw3⟩
      have TB : Hid (Lv w w3 w.heap.size ao n cap P K) := TT.out.grow bw3
      clear bw3 TT c0 c1
      have TT : Hid (Lv w w3 w.heap.size ao n cap P K) := TB.out
      clear TB
      obtain ⟨c0, c1⟩ := TT.out.c
      clear c2
      go_wp2_with fail
      refine Calls.mono (CA.out w3) ?_; rintro e wz ⟨rfl, bz⟩
      have BZ : Hid (Below w.heap.size w wz) := (TT.out.grow bz).bel
      clear bz
      go_wp2_with fail
      go_ret
      exact ⟨rfl, BZ.out⟩
    | true =>
      rw [hr] at c2
      obtain ⟨g1, g2, g3, g4⟩ := rgt_len hr
      by_cases hkK : k < K
      · go_wp2_with fail
        refine Calls.mono (Hid.out c2) ?_; rintro e w3 ⟨rfl, bw3⟩
        have TB : Hid (Lv w w3 w.heap.size ao n cap P K) := TT.out.grow bw3
        clear bw3 TT c0 c1
        have TT : Hid (Lv w w3 w.heap.size ao n cap P K) := TB.out
        clear TB
        obtain ⟨c0, c1⟩ := TT.out.c
        clear c2
        go_wp2_with fail
        refine Calls.mono (CA.out w3) ?_; rintro e wz ⟨rfl, bz⟩
        have BZ : Hid (Below w.heap.size w wz) := (TT.out.grow bz).bel
        clear bz
        go_wp2_with fail
        go_ret
        exact ⟨rfl, BZ.out⟩
      · have hkK' : K ≤ k := by omega
        by_cases hk64 : 64 < k
        · go_wp2_with fail
          refine Calls.mono (Hid.out c2) ?_; rintro e w3 ⟨rfl, bw3⟩
          have TB : Hid (Lv w w3 w.heap.size ao n cap P K) := TT.out.grow bw3
          clear bw3 TT c0 c1
          have TT : Hid (Lv w w3 w.heap.size ao n cap P K) := TB.out
          clear TB
          obtain ⟨c0, c1⟩ := TT.out.c
          clear c2
          go_wp2_with fail
          refine Calls.mono (CA.out w3) ?_; rintro e wz ⟨rfl, bz⟩
          have BZ : Hid (Below w.heap.size w wz) := (TT.out.grow bz).bel
          clear bz
          go_wp2_with fail
          go_ret
          exact ⟨rfl, BZ.out⟩
        · have hk64' : k ≤ 64 := by omega
          go_wp2_with fail
          refine Calls.mono (Hid.out c2) ?_; rintro e w3 ⟨rfl, bw3⟩
          have TB : Hid (Lv w w3 w.heap.size ao n cap P K) := TT.out.grow bw3
          clear bw3 TT c0 c1
          have TT : Hid (Lv w w3 w.heap.size ao n cap P K) := TB.out
          clear TB
          obtain ⟨c0, c1⟩ := TT.out.c
          clear c2 hi
          have hU : Hid (∀ v, Below w3.heap.size w3 v → v.cell? ⟨w.heap.size, 0, none⟩ = some (.slice ao n cap) ∧ v.cell? ⟨w.heap.size, 1, none⟩ = some (.int .i64 K)) := fun v hv => two_below TT.out.c hv (lt_of_cell TT.out.c.1)
          go_wp2_with fail
          go_cut [7, 8, 9] (fun v7 v8 v9 wc => ∃ (g7 g8 g9 : Nat), v7 = .pointer (some ⟨g7, 0, none⟩) ∧ v8 = .pointer (some ⟨g8, 0, none⟩) ∧ v9 = .pointer (some ⟨g9, 0, none⟩) ∧ (w3.heap.size ≤ g7 ∧ w3.heap.size ≤ g8 ∧ w3.heap.size ≤ g9 ∧ g7 ≠ g8 ∧ g7 ≠ g9 ∧ g8 ≠ g9) ∧ Wb wc g7 (.slice ao n cap) (.int .i64 K) ∧ Wb wc g8 (.slice ao n cap) (.int .i64 K) ∧ Wb wc g9 (.slice none 0 0) (.int .i64 0) ∧ Below w3.heap.size w3 wc)
          case first =>
            rename_i J' K' hJ hK'
            refine region_plain (S := fun v => v.cell? ⟨w.heap.size, 0, none⟩ = some (.slice ao n cap) ∧ v.cell? ⟨w.heap.size, 1, none⟩ = some (.int .i64 K)) (by kernel_rfl) ?_
            have bd : Below w3.heap.size w3 w3.drew := (Below.refl _ _).drew
            have hH := hU.out w3.drew bd
            refine takeH (i := 0) (v := .agg #[.slice ao n cap, .int .i64 K]) rfl (by kernel_rfl) (by kernel_rfl) (by kernel_rfl) (fun _ _ _ h => h) rfl ?_ hH ?_
            · rintro v0 ⟨y0, y1⟩
              go_simp
            try simp only [Act.put, List.setIfInBounds_toArray, List.set_cons_zero, List.set_cons_succ]
            refine takeH (i := 1) (v := .agg #[.slice ao n cap, .int .i64 K]) rfl (by kernel_rfl) (by kernel_rfl) (by kernel_rfl) (fun _ _ _ h => h) rfl ?_ hH ?_
            · rintro v0 ⟨y0, y1⟩
              go_simp
            try simp only [Act.put, List.setIfInBounds_toArray, List.set_cons_zero, List.set_cons_succ]
            refine takeH (i := 2) (v := .agg #[.slice none 0 0, .int .i64 0]) rfl (by kernel_rfl) (by kernel_rfl) (by kernel_rfl) (fun _ _ _ h => h) rfl ?_ hH ?_
            · rintro v0 ⟨y0, y1⟩
              go_simp
            try simp only [Act.put, List.setIfInBounds_toArray, List.set_cons_zero, List.set_cons_succ]
            obtain ⟨W0, hW0⟩ : ∃ W0, W0 = w3.drew := ⟨_, rfl⟩
            rw [← hW0]
            have bW0 : Below w3.heap.size w3 W0 := by rw [hW0]; exact bd
            clear hW0 bd hH
            refine stepH3 (i := 3) (j := 4) (l := 5) rfl rfl rfl (by kernel_rfl) rfl rfl rfl (fun K1 hK1 => ?_) (fun K1 hK1 => ?_) (fun K1 hK1 => ?_)
            · obtain ⟨Wa, xWa, hWa⟩ := Wb.new W0 (.slice none 0 0) (.int .i64 0)
              have bWa : Below w3.heap.size w3 Wa := bW0.trans (xWa.bel.mono bW0.size)
              have sWa : W0.heap.size < Wa.heap.size := by have := xWa.size; omega
              have eWa : Hid _ := xWa.eq
              go_simp
              rw [← eWa.out]
              refine hK1.out _ _ (hU.out Wa bWa) ?_
              clear hK1 K1
              try simp only [Act.put, List.setIfInBounds_toArray, List.set_cons_zero, List.set_cons_succ]
              refine stepH2 (i := 4) (j := 5) rfl rfl (by kernel_rfl) rfl rfl (fun K1 hK1 => ?_) (fun K1 hK1 => ?_)
              · obtain ⟨Wb_, xWb_, hWb_⟩ := Wb.new Wa (.slice none 0 0) (.int .i64 0)
                have bWb_ : Below w3.heap.size w3 Wb_ := bWa.trans (xWb_.bel.mono bWa.size)
                have sWb_ : Wa.heap.size < Wb_.heap.size := by have := xWb_.size; omega
                have eWb_ : Hid _ := xWb_.eq
                go_simp
                rw [← eWb_.out]
                refine hK1.out _ _ (hU.out Wb_ bWb_) ?_
                clear hK1 K1
                try simp only [Act.put, List.setIfInBounds_toArray, List.set_cons_zero, List.set_cons_succ]
                refine stepH (i := 5) rfl (by kernel_rfl) rfl (fun K1 hK1 => ?_)
                obtain ⟨Wc, xWc, hWc⟩ := Wb.new Wb_ (.slice none 0 0) (.int .i64 0)
                have bWc : Below w3.heap.size w3 Wc := bWb_.trans (xWc.bel.mono bWb_.size)
                have sWc : Wb_.heap.size < Wc.heap.size := by have := xWc.size; omega
                have eWc : Hid _ := xWc.eq
                go_simp
                rw [← eWc.out]
                refine hK1.out _ _ (hU.out Wc bWc) ?_
                clear hK1 K1
                try simp only [Act.put, List.setIfInBounds_toArray, List.set_cons_zero, List.set_cons_succ]
                obtain ⟨v1, v2, v3, ev1, wb1, bv1, ev2, wb2, bv2, ev3, bv3, r7, r8, r9⟩ := fill3 (a := w3) (u7 := .slice ao n cap) (t7 := .int .i64 K) (u8 := .slice ao n cap) (t8 := .int .i64 K) (u9 := .slice none 0 0) (t9 := .int .i64 0) bWc ((hWa.grow xWb_.bel).grow xWc.bel) (hWb_.grow xWc.bel) hWc (by have := bW0.size; omega) (by have := bW0.size; omega) (by have := bW0.size; omega) (by omega) (by omega) (by omega)
                have wb0 := ((hWa.grow xWb_.bel).grow xWc.bel)
                have z3 : w3.heap.size ≤ W0.heap.size ∧ w3.heap.size ≤ Wa.heap.size ∧ w3.heap.size ≤ Wb_.heap.size ∧ W0.heap.size ≠ Wa.heap.size ∧ W0.heap.size ≠ Wb_.heap.size ∧ Wa.heap.size ≠ Wb_.heap.size := by have := bW0.size; omega
                have p0 := wb0.c0
                have p1 := wb0.c1
                have p2 := wb0.f0
                have p3 := wb0.f1
                have EV1 : Hid _ := ev1
                have EV2 : Hid _ := ev2
                have EV3 : Hid _ := ev3
                clear ev1 ev2 ev3
                generalize W0.heap.size = g7 at *
                generalize Wa.heap.size = g8 at *
                generalize Wb_.heap.size = g9 at *
                refine stepH (i := 6) rfl (by kernel_rfl) rfl (fun K1 hK1 => ?_)
                go_simp
                rw [← EV1.out]
                refine hK1.out _ _ (hU.out v1 bv1) ?_
                clear hK1 K1 p0 p1 p2 p3
                try simp only [Act.put, List.setIfInBounds_toArray, List.set_cons_zero, List.set_cons_succ]
                have p0 := wb1.c0
                have p1 := wb1.c1
                have p2 := wb1.f0
                have p3 := wb1.f1
                refine stepH (i := 7) rfl (by kernel_rfl) rfl (fun K1 hK1 => ?_)
                go_simp
                rw [← EV2.out]
                refine hK1.out _ _ (hU.out v2 bv2) ?_
                clear hK1 K1 p0 p1 p2 p3
                try simp only [Act.put, List.setIfInBounds_toArray, List.set_cons_zero, List.set_cons_succ]
                have p0 := wb2.c0
                have p1 := wb2.c1
                have p2 := wb2.f0
                have p3 := wb2.f1
                refine stepH (i := 8) rfl (by kernel_rfl) rfl (fun K1 hK1 => ?_)
                go_simp
                rw [← EV3.out]
                refine hK1.out _ _ (hU.out v3 bv3) ?_
                clear hK1 K1
                refine wpAnyH_done (by kernel_rfl) ?_ _
                refine hK' _ _ (Met.intro (hJ _ _ ?_))
                repeat apply Exists.intro
                exact ⟨⟨g7, g8, g9, rfl, rfl, rfl, z3, r7, r8, r9, bv3⟩, rfl⟩
              · obtain ⟨Wb_, xWb_, hWb_⟩ := Wb.new Wa (.slice none 0 0) (.int .i64 0)
                have bWb_ : Below w3.heap.size w3 Wb_ := bWa.trans (xWb_.bel.mono bWa.size)
                have sWb_ : Wa.heap.size < Wb_.heap.size := by have := xWb_.size; omega
                have eWb_ : Hid _ := xWb_.eq
                go_simp
                rw [← eWb_.out]
                refine hK1.out _ _ (hU.out Wb_ bWb_) ?_
                clear hK1 K1
                try simp only [Act.put, List.setIfInBounds_toArray, List.set_cons_zero, List.set_cons_succ]
                refine stepH (i := 4) rfl (by kernel_rfl) rfl (fun K1 hK1 => ?_)
                obtain ⟨Wc, xWc, hWc⟩ := Wb.new Wb_ (.slice none 0 0) (.int .i64 0)
                have bWc : Below w3.heap.size w3 Wc := bWb_.trans (xWc.bel.mono bWb_.size)
                have sWc : Wb_.heap.size < Wc.heap.size := by have := xWc.size; omega
                have eWc : Hid _ := xWc.eq
                go_simp
                rw [← eWc.out]
                refine hK1.out _ _ (hU.out Wc bWc) ?_
                clear hK1 K1
                try simp only [Act.put, List.setIfInBounds_toArray, List.set_cons_zero, List.set_cons_succ]
                obtain ⟨v1, v2, v3, ev1, wb1, bv1, ev2, wb2, bv2, ev3, bv3, r7, r8, r9⟩ := fill3 (a := w3) (u7 := .slice ao n cap) (t7 := .int .i64 K) (u8 := .slice ao n cap) (t8 := .int .i64 K) (u9 := .slice none 0 0) (t9 := .int .i64 0) bWc ((hWa.grow xWb_.bel).grow xWc.bel) hWc (hWb_.grow xWc.bel) (by have := bW0.size; omega) (by have := bW0.size; omega) (by have := bW0.size; omega) (by omega) (by omega) (by omega)
                have wb0 := ((hWa.grow xWb_.bel).grow xWc.bel)
                have z3 : w3.heap.size ≤ W0.heap.size ∧ w3.heap.size ≤ Wb_.heap.size ∧ w3.heap.size ≤ Wa.heap.size ∧ W0.heap.size ≠ Wb_.heap.size ∧ W0.heap.size ≠ Wa.heap.size ∧ Wb_.heap.size ≠ Wa.heap.size := by have := bW0.size; omega
                have p0 := wb0.c0
                have p1 := wb0.c1
                have p2 := wb0.f0
                have p3 := wb0.f1
                have EV1 : Hid _ := ev1
                have EV2 : Hid _ := ev2
                have EV3 : Hid _ := ev3
                clear ev1 ev2 ev3
                generalize W0.heap.size = g7 at *
                generalize Wb_.heap.size = g8 at *
                generalize Wa.heap.size = g9 at *
                refine stepH (i := 6) rfl (by kernel_rfl) rfl (fun K1 hK1 => ?_)
                go_simp
                rw [← EV1.out]
                refine hK1.out _ _ (hU.out v1 bv1) ?_
                clear hK1 K1 p0 p1 p2 p3
                try simp only [Act.put, List.setIfInBounds_toArray, List.set_cons_zero, List.set_cons_succ]
                have p0 := wb1.c0
                have p1 := wb1.c1
                have p2 := wb1.f0
                have p3 := wb1.f1
                refine stepH (i := 7) rfl (by kernel_rfl) rfl (fun K1 hK1 => ?_)
                go_simp
                rw [← EV2.out]
                refine hK1.out _ _ (hU.out v2 bv2) ?_
                clear hK1 K1 p0 p1 p2 p3
                try simp only [Act.put, List.setIfInBounds_toArray, List.set_cons_zero, List.set_cons_succ]
                have p0 := wb2.c0
                have p1 := wb2.c1
                have p2 := wb2.f0
                have p3 := wb2.f1
                refine stepH (i := 8) rfl (by kernel_rfl) rfl (fun K1 hK1 => ?_)
                go_simp
                rw [← EV3.out]
                refine hK1.out _ _ (hU.out v3 bv3) ?_
                clear hK1 K1
                refine wpAnyH_done (by kernel_rfl) ?_ _
                refine hK' _ _ (Met.intro (hJ _ _ ?_))
                repeat apply Exists.intro
                exact ⟨⟨g7, g8, g9, rfl, rfl, rfl, z3, r7, r8, r9, bv3⟩, rfl⟩
            · obtain ⟨Wa, xWa, hWa⟩ := Wb.new W0 (.slice none 0 0) (.int .i64 0)
              have bWa : Below w3.heap.size w3 Wa := bW0.trans (xWa.bel.mono bW0.size)
              have sWa : W0.heap.size < Wa.heap.size := by have := xWa.size; omega
              have eWa : Hid _ := xWa.eq
              go_simp
              rw [← eWa.out]
              refine hK1.out _ _ (hU.out Wa bWa) ?_
              clear hK1 K1
              try simp only [Act.put, List.setIfInBounds_toArray, List.set_cons_zero, List.set_cons_succ]
              refine stepH2 (i := 3) (j := 5) rfl rfl (by kernel_rfl) rfl rfl (fun K1 hK1 => ?_) (fun K1 hK1 => ?_)
              · obtain ⟨Wb_, xWb_, hWb_⟩ := Wb.new Wa (.slice none 0 0) (.int .i64 0)
                have bWb_ : Below w3.heap.size w3 Wb_ := bWa.trans (xWb_.bel.mono bWa.size)
                have sWb_ : Wa.heap.size < Wb_.heap.size := by have := xWb_.size; omega
                have eWb_ : Hid _ := xWb_.eq
                go_simp
                rw [← eWb_.out]
                refine hK1.out _ _ (hU.out Wb_ bWb_) ?_
                clear hK1 K1
                try simp only [Act.put, List.setIfInBounds_toArray, List.set_cons_zero, List.set_cons_succ]
                refine stepH (i := 5) rfl (by kernel_rfl) rfl (fun K1 hK1 => ?_)
                obtain ⟨Wc, xWc, hWc⟩ := Wb.new Wb_ (.slice none 0 0) (.int .i64 0)
                have bWc : Below w3.heap.size w3 Wc := bWb_.trans (xWc.bel.mono bWb_.size)
                have sWc : Wb_.heap.size < Wc.heap.size := by have := xWc.size; omega
                have eWc : Hid _ := xWc.eq
                go_simp
                rw [← eWc.out]
                refine hK1.out _ _ (hU.out Wc bWc) ?_
                clear hK1 K1
                try simp only [Act.put, List.setIfInBounds_toArray, List.set_cons_zero, List.set_cons_succ]
                obtain ⟨v1, v2, v3, ev1, wb1, bv1, ev2, wb2, bv2, ev3, bv3, r7, r8, r9⟩ := fill3 (a := w3) (u7 := .slice ao n cap) (t7 := .int .i64 K) (u8 := .slice ao n cap) (t8 := .int .i64 K) (u9 := .slice none 0 0) (t9 := .int .i64 0) bWc (hWb_.grow xWc.bel) ((hWa.grow xWb_.bel).grow xWc.bel) hWc (by have := bW0.size; omega) (by have := bW0.size; omega) (by have := bW0.size; omega) (by omega) (by omega) (by omega)
                have wb0 := (hWb_.grow xWc.bel)
                have z3 : w3.heap.size ≤ Wa.heap.size ∧ w3.heap.size ≤ W0.heap.size ∧ w3.heap.size ≤ Wb_.heap.size ∧ Wa.heap.size ≠ W0.heap.size ∧ Wa.heap.size ≠ Wb_.heap.size ∧ W0.heap.size ≠ Wb_.heap.size := by have := bW0.size; omega
                have p0 := wb0.c0
                have p1 := wb0.c1
                have p2 := wb0.f0
                have p3 := wb0.f1
                have EV1 : Hid _ := ev1
                have EV2 : Hid _ := ev2
                have EV3 : Hid _ := ev3
                clear ev1 ev2 ev3
                generalize Wa.heap.size = g7 at *
                generalize W0.heap.size = g8 at *
                generalize Wb_.heap.size = g9 at *
                refine stepH (i := 6) rfl (by kernel_rfl) rfl (fun K1 hK1 => ?_)
                go_simp
                rw [← EV1.out]
                refine hK1.out _ _ (hU.out v1 bv1) ?_
                clear hK1 K1 p0 p1 p2 p3
                try simp only [Act.put, List.setIfInBounds_toArray, List.set_cons_zero, List.set_cons_succ]
                have p0 := wb1.c0
                have p1 := wb1.c1
                have p2 := wb1.f0
                have p3 := wb1.f1
                refine stepH (i := 7) rfl (by kernel_rfl) rfl (fun K1 hK1 => ?_)
                go_simp
                rw [← EV2.out]
                refine hK1.out _ _ (hU.out v2 bv2) ?_
                clear hK1 K1 p0 p1 p2 p3
                try simp only [Act.put, List.setIfInBounds_toArray, List.set_cons_zero, List.set_cons_succ]
                have p0 := wb2.c0
                have p1 := wb2.c1
                have p2 := wb2.f0
                have p3 := wb2.f1
                refine stepH (i := 8) rfl (by kernel_rfl) rfl (fun K1 hK1 => ?_)
                go_simp
                rw [← EV3.out]
                refine hK1.out _ _ (hU.out v3 bv3) ?_
                clear hK1 K1
                refine wpAnyH_done (by kernel_rfl) ?_ _
                refine hK' _ _ (Met.intro (hJ _ _ ?_))
                repeat apply Exists.intro
                exact ⟨⟨g7, g8, g9, rfl, rfl, rfl, z3, r7, r8, r9, bv3⟩, rfl⟩
              · obtain ⟨Wb_, xWb_, hWb_⟩ := Wb.new Wa (.slice none 0 0) (.int .i64 0)
                have bWb_ : Below w3.heap.size w3 Wb_ := bWa.trans (xWb_.bel.mono bWa.size)
                have sWb_ : Wa.heap.size < Wb_.heap.size := by have := xWb_.size; omega
                have eWb_ : Hid _ := xWb_.eq
                go_simp
                rw [← eWb_.out]
                refine hK1.out _ _ (hU.out Wb_ bWb_) ?_
                clear hK1 K1
                try simp only [Act.put, List.setIfInBounds_toArray, List.set_cons_zero, List.set_cons_succ]
                refine stepH (i := 3) rfl (by kernel_rfl) rfl (fun K1 hK1 => ?_)
                obtain ⟨Wc, xWc, hWc⟩ := Wb.new Wb_ (.slice none 0 0) (.int .i64 0)
                have bWc : Below w3.heap.size w3 Wc := bWb_.trans (xWc.bel.mono bWb_.size)
                have sWc : Wb_.heap.size < Wc.heap.size := by have := xWc.size; omega
                have eWc : Hid _ := xWc.eq
                go_simp
                rw [← eWc.out]
                refine hK1.out _ _ (hU.out Wc bWc) ?_
                clear hK1 K1
                try simp only [Act.put, List.setIfInBounds_toArray, List.set_cons_zero, List.set_cons_succ]
                obtain ⟨v1, v2, v3, ev1, wb1, bv1, ev2, wb2, bv2, ev3, bv3, r7, r8, r9⟩ := fill3 (a := w3) (u7 := .slice ao n cap) (t7 := .int .i64 K) (u8 := .slice ao n cap) (t8 := .int .i64 K) (u9 := .slice none 0 0) (t9 := .int .i64 0) bWc hWc ((hWa.grow xWb_.bel).grow xWc.bel) (hWb_.grow xWc.bel) (by have := bW0.size; omega) (by have := bW0.size; omega) (by have := bW0.size; omega) (by omega) (by omega) (by omega)
                have wb0 := hWc
                have z3 : w3.heap.size ≤ Wb_.heap.size ∧ w3.heap.size ≤ W0.heap.size ∧ w3.heap.size ≤ Wa.heap.size ∧ Wb_.heap.size ≠ W0.heap.size ∧ Wb_.heap.size ≠ Wa.heap.size ∧ W0.heap.size ≠ Wa.heap.size := by have := bW0.size; omega
                have p0 := wb0.c0
                have p1 := wb0.c1
                have p2 := wb0.f0
                have p3 := wb0.f1
                have EV1 : Hid _ := ev1
                have EV2 : Hid _ := ev2
                have EV3 : Hid _ := ev3
                clear ev1 ev2 ev3
                generalize Wb_.heap.size = g7 at *
                generalize W0.heap.size = g8 at *
                generalize Wa.heap.size = g9 at *
                refine stepH (i := 6) rfl (by kernel_rfl) rfl (fun K1 hK1 => ?_)
                go_simp
                rw [← EV1.out]
                refine hK1.out _ _ (hU.out v1 bv1) ?_
                clear hK1 K1 p0 p1 p2 p3
                try simp only [Act.put, List.setIfInBounds_toArray, List.set_cons_zero, List.set_cons_succ]
                have p0 := wb1.c0
                have p1 := wb1.c1
                have p2 := wb1.f0
                have p3 := wb1.f1
                refine stepH (i := 7) rfl (by kernel_rfl) rfl (fun K1 hK1 => ?_)
                go_simp
                rw [← EV2.out]
                refine hK1.out _ _ (hU.out v2 bv2) ?_
                clear hK1 K1 p0 p1 p2 p3
                try simp only [Act.put, List.setIfInBounds_toArray, List.set_cons_zero, List.set_cons_succ]
                have p0 := wb2.c0
                have p1 := wb2.c1
                have p2 := wb2.f0
                have p3 := wb2.f1
                refine stepH (i := 8) rfl (by kernel_rfl) rfl (fun K1 hK1 => ?_)
                go_simp
                rw [← EV3.out]
                refine hK1.out _ _ (hU.out v3 bv3) ?_
                clear hK1 K1
                refine wpAnyH_done (by kernel_rfl) ?_ _
                refine hK' _ _ (Met.intro (hJ _ _ ?_))
                repeat apply Exists.intro
                exact ⟨⟨g7, g8, g9, rfl, rfl, rfl, z3, r7, r8, r9, bv3⟩, rfl⟩
            · obtain ⟨Wa, xWa, hWa⟩ := Wb.new W0 (.slice none 0 0) (.int .i64 0)
              have bWa : Below w3.heap.size w3 Wa := bW0.trans (xWa.bel.mono bW0.size)
              have sWa : W0.heap.size < Wa.heap.size := by have := xWa.size; omega
              have eWa : Hid _ := xWa.eq
              go_simp
              rw [← eWa.out]
              refine hK1.out _ _ (hU.out Wa bWa) ?_
              clear hK1 K1
              try simp only [Act.put, List.setIfInBounds_toArray, List.set_cons_zero, List.set_cons_succ]
              refine stepH2 (i := 3) (j := 4) rfl rfl (by kernel_rfl) rfl rfl (fun K1 hK1 => ?_) (fun K1 hK1 => ?_)
              · obtain ⟨Wb_, xWb_, hWb_⟩ := Wb.new Wa (.slice none 0 0) (.int .i64 0)
                have bWb_ : Below w3.heap.size w3 Wb_ := bWa.trans (xWb_.bel.mono bWa.size)
                have sWb_ : Wa.heap.size < Wb_.heap.size := by have := xWb_.size; omega
                have eWb_ : Hid _ := xWb_.eq
                go_simp
                rw [← eWb_.out]
                refine hK1.out _ _ (hU.out Wb_ bWb_) ?_
                clear hK1 K1
                try simp only [Act.put, List.setIfInBounds_toArray, List.set_cons_zero, List.set_cons_succ]
                refine stepH (i := 4) rfl (by kernel_rfl) rfl (fun K1 hK1 => ?_)
                obtain ⟨Wc, xWc, hWc⟩ := Wb.new Wb_ (.slice none 0 0) (.int .i64 0)
                have bWc : Below w3.heap.size w3 Wc := bWb_.trans (xWc.bel.mono bWb_.size)
                have sWc : Wb_.heap.size < Wc.heap.size := by have := xWc.size; omega
                have eWc : Hid _ := xWc.eq
                go_simp
                rw [← eWc.out]
                refine hK1.out _ _ (hU.out Wc bWc) ?_
                clear hK1 K1
                try simp only [Act.put, List.setIfInBounds_toArray, List.set_cons_zero, List.set_cons_succ]
                obtain ⟨v1, v2, v3, ev1, wb1, bv1, ev2, wb2, bv2, ev3, bv3, r7, r8, r9⟩ := fill3 (a := w3) (u7 := .slice ao n cap) (t7 := .int .i64 K) (u8 := .slice ao n cap) (t8 := .int .i64 K) (u9 := .slice none 0 0) (t9 := .int .i64 0) bWc (hWb_.grow xWc.bel) hWc ((hWa.grow xWb_.bel).grow xWc.bel) (by have := bW0.size; omega) (by have := bW0.size; omega) (by have := bW0.size; omega) (by omega) (by omega) (by omega)
                have wb0 := (hWb_.grow xWc.bel)
                have z3 : w3.heap.size ≤ Wa.heap.size ∧ w3.heap.size ≤ Wb_.heap.size ∧ w3.heap.size ≤ W0.heap.size ∧ Wa.heap.size ≠ Wb_.heap.size ∧ Wa.heap.size ≠ W0.heap.size ∧ Wb_.heap.size ≠ W0.heap.size := by have := bW0.size; omega
                have p0 := wb0.c0
                have p1 := wb0.c1
                have p2 := wb0.f0
                have p3 := wb0.f1
                have EV1 : Hid _ := ev1
                have EV2 : Hid _ := ev2
                have EV3 : Hid _ := ev3
                clear ev1 ev2 ev3
                generalize Wa.heap.size = g7 at *
                generalize Wb_.heap.size = g8 at *
                generalize W0.heap.size = g9 at *
                refine stepH (i := 6) rfl (by kernel_rfl) rfl (fun K1 hK1 => ?_)
                go_simp
                rw [← EV1.out]
                refine hK1.out _ _ (hU.out v1 bv1) ?_
                clear hK1 K1 p0 p1 p2 p3
                try simp only [Act.put, List.setIfInBounds_toArray, List.set_cons_zero, List.set_cons_succ]
                have p0 := wb1.c0
                have p1 := wb1.c1
                have p2 := wb1.f0
                have p3 := wb1.f1
                refine stepH (i := 7) rfl (by kernel_rfl) rfl (fun K1 hK1 => ?_)
                go_simp
                rw [← EV2.out]
                refine hK1.out _ _ (hU.out v2 bv2) ?_
                clear hK1 K1 p0 p1 p2 p3
                try simp only [Act.put, List.setIfInBounds_toArray, List.set_cons_zero, List.set_cons_succ]
                have p0 := wb2.c0
                have p1 := wb2.c1
                have p2 := wb2.f0
                have p3 := wb2.f1
                refine stepH (i := 8) rfl (by kernel_rfl) rfl (fun K1 hK1 => ?_)
                go_simp
                rw [← EV3.out]
                refine hK1.out _ _ (hU.out v3 bv3) ?_
                clear hK1 K1
                refine wpAnyH_done (by kernel_rfl) ?_ _
                refine hK' _ _ (Met.intro (hJ _ _ ?_))
                repeat apply Exists.intro
                exact ⟨⟨g7, g8, g9, rfl, rfl, rfl, z3, r7, r8, r9, bv3⟩, rfl⟩
              · obtain ⟨Wb_, xWb_, hWb_⟩ := Wb.new Wa (.slice none 0 0) (.int .i64 0)
                have bWb_ : Below w3.heap.size w3 Wb_ := bWa.trans (xWb_.bel.mono bWa.size)
                have sWb_ : Wa.heap.size < Wb_.heap.size := by have := xWb_.size; omega
                have eWb_ : Hid _ := xWb_.eq
                go_simp
                rw [← eWb_.out]
                refine hK1.out _ _ (hU.out Wb_ bWb_) ?_
                clear hK1 K1
                try simp only [Act.put, List.setIfInBounds_toArray, List.set_cons_zero, List.set_cons_succ]
                refine stepH (i := 3) rfl (by kernel_rfl) rfl (fun K1 hK1 => ?_)
                obtain ⟨Wc, xWc, hWc⟩ := Wb.new Wb_ (.slice none 0 0) (.int .i64 0)
                have bWc : Below w3.heap.size w3 Wc := bWb_.trans (xWc.bel.mono bWb_.size)
                have sWc : Wb_.heap.size < Wc.heap.size := by have := xWc.size; omega
                have eWc : Hid _ := xWc.eq
                go_simp
                rw [← eWc.out]
                refine hK1.out _ _ (hU.out Wc bWc) ?_
                clear hK1 K1
                try simp only [Act.put, List.setIfInBounds_toArray, List.set_cons_zero, List.set_cons_succ]
                obtain ⟨v1, v2, v3, ev1, wb1, bv1, ev2, wb2, bv2, ev3, bv3, r7, r8, r9⟩ := fill3 (a := w3) (u7 := .slice ao n cap) (t7 := .int .i64 K) (u8 := .slice ao n cap) (t8 := .int .i64 K) (u9 := .slice none 0 0) (t9 := .int .i64 0) bWc hWc (hWb_.grow xWc.bel) ((hWa.grow xWb_.bel).grow xWc.bel) (by have := bW0.size; omega) (by have := bW0.size; omega) (by have := bW0.size; omega) (by omega) (by omega) (by omega)
                have wb0 := hWc
                have z3 : w3.heap.size ≤ Wb_.heap.size ∧ w3.heap.size ≤ Wa.heap.size ∧ w3.heap.size ≤ W0.heap.size ∧ Wb_.heap.size ≠ Wa.heap.size ∧ Wb_.heap.size ≠ W0.heap.size ∧ Wa.heap.size ≠ W0.heap.size := by have := bW0.size; omega
                have p0 := wb0.c0
                have p1 := wb0.c1
                have p2 := wb0.f0
                have p3 := wb0.f1
                have EV1 : Hid _ := ev1
                have EV2 : Hid _ := ev2
                have EV3 : Hid _ := ev3
                clear ev1 ev2 ev3
                generalize Wb_.heap.size = g7 at *
                generalize Wa.heap.size = g8 at *
                generalize W0.heap.size = g9 at *
                refine stepH (i := 6) rfl (by kernel_rfl) rfl (fun K1 hK1 => ?_)
                go_simp
                rw [← EV1.out]
                refine hK1.out _ _ (hU.out v1 bv1) ?_
                clear hK1 K1 p0 p1 p2 p3
                try simp only [Act.put, List.setIfInBounds_toArray, List.set_cons_zero, List.set_cons_succ]
                have p0 := wb1.c0
                have p1 := wb1.c1
                have p2 := wb1.f0
                have p3 := wb1.f1
                refine stepH (i := 7) rfl (by kernel_rfl) rfl (fun K1 hK1 => ?_)
                go_simp
                rw [← EV2.out]
                refine hK1.out _ _ (hU.out v2 bv2) ?_
                clear hK1 K1 p0 p1 p2 p3
                try simp only [Act.put, List.setIfInBounds_toArray, List.set_cons_zero, List.set_cons_succ]
                have p0 := wb2.c0
                have p1 := wb2.c1
                have p2 := wb2.f0
                have p3 := wb2.f1
                refine stepH (i := 8) rfl (by kernel_rfl) rfl (fun K1 hK1 => ?_)
                go_simp
                rw [← EV3.out]
                refine hK1.out _ _ (hU.out v3 bv3) ?_
                clear hK1 K1
                refine wpAnyH_done (by kernel_rfl) ?_ _
                refine hK' _ _ (Met.intro (hJ _ _ ?_))
                repeat apply Exists.intro
                exact ⟨⟨g7, g8, g9, rfl, rfl, rfl, z3, r7, r8, r9, bv3⟩, rfl⟩
          case rest =>
            obtain ⟨g7, g8, g9, rfl, rfl, rfl, ⟨l7, l8, l9, n78, n79, n89⟩, r7, r8, r9, hB⟩ := hcut
            have HR : Hid (Wb wc g7 (.slice ao n cap) (.int .i64 K) ∧ Wb wc g8 (.slice ao n cap) (.int .i64 K) ∧ Wb wc g9 (.slice none 0 0) (.int .i64 0) ∧ Below w3.heap.size w3 wc) := ⟨r7, r8, r9, hB⟩
            have sg : w.heap.size < w3.heap.size := lt_of_cell TT.out.c.1
            have HN : Hid (g7 ≠ g8 ∧ g7 ≠ g9 ∧ g8 ≠ g9) := ⟨n78, n79, n89⟩
            clear r7 r8 r9 hB
            go_wp2_with fail
            refine region_plain (S := fun v => v.cell? ⟨w.heap.size, 0, none⟩ = some (.slice ao n cap) ∧ True) (by kernel_rfl) ?_
            have bd : Below w3.heap.size w3 wc.drew := HR.out.2.2.2.drew
            have hH : wc.drew.cell? ⟨w.heap.size, 0, none⟩ = some (.slice ao n cap) ∧ True := ⟨(hU.out _ bd).1, trivial⟩
            refine takeH (i := 0) (v := .int .i64 k) rfl (by kernel_rfl) (by kernel_rfl) (by kernel_rfl) (fun _ _ _ h => h) rfl ?_ hH ?_
            · rintro v0 ⟨y0, _⟩
              go_simp
            try simp only [Act.put, List.setIfInBounds_toArray, List.set_cons_zero, List.set_cons_succ]
            refine takeH (i := 1) (v := .pointer (some ⟨w.heap.size, 0, none⟩)) rfl (by kernel_rfl) (by kernel_rfl) (by kernel_rfl) (fun _ _ _ h => h) rfl ?_ hH ?_
            · rintro v0 ⟨y0, _⟩
              go_simp
            try simp only [Act.put, List.setIfInBounds_toArray, List.set_cons_zero, List.set_cons_succ]
            refine takeH (i := 2) (v := .slice ao n cap) rfl (by kernel_rfl) (by kernel_rfl) (by kernel_rfl) (fun _ _ _ h => h) rfl ?_ hH ?_
            · rintro v0 ⟨y0, _⟩
              go_simp
            try simp only [Act.put, List.setIfInBounds_toArray, List.set_cons_zero, List.set_cons_succ]
            refine takeH (i := 3) (v := .int .i64 (n : Int)) rfl (by kernel_rfl) (by kernel_rfl) (by kernel_rfl) (fun _ _ _ h => h) rfl ?_ hH ?_
            · rintro v0 ⟨y0, _⟩
              go_simp
            try simp only [Act.put, List.setIfInBounds_toArray, List.set_cons_zero, List.set_cons_succ]
            refine takeH (i := 4) (v := .pointer (some ⟨g7, 1, none⟩)) rfl (by kernel_rfl) (by kernel_rfl) (by kernel_rfl) (fun _ _ _ h => h) rfl ?_ hH ?_
            · rintro v0 ⟨y0, _⟩
              go_simp
            try simp only [Act.put, List.setIfInBounds_toArray, List.set_cons_zero, List.set_cons_succ]
            obtain ⟨wq, hwq⟩ : ∃ wq, wq = wc.drew := ⟨_, rfl⟩
            rw [← hwq]
            have R7 : Wb wq g7 (.slice ao n cap) (.int .i64 K) := by rw [hwq]; exact ⟨HR.out.1.c0, HR.out.1.c1, HR.out.1.f0, HR.out.1.f1⟩
            have R8 : Wb wq g8 (.slice ao n cap) (.int .i64 K) := by rw [hwq]; exact ⟨HR.out.2.1.c0, HR.out.2.1.c1, HR.out.2.1.f0, HR.out.2.1.f1⟩
            have R9 : Wb wq g9 (.slice none 0 0) (.int .i64 0) := by rw [hwq]; exact ⟨HR.out.2.2.1.c0, HR.out.2.2.1.c1, HR.out.2.2.1.f0, HR.out.2.2.1.f1⟩
            rw [← hwq] at bd
            clear hwq
            refine stepH (i := 5) rfl (by kernel_rfl) rfl (fun K1 hK1 => ?_)
            have p1 := R7.c1
            have p3 := R7.f1
            go_simp
            obtain ⟨v1, ev1⟩ : ∃ v1, v1 = wq.setCell ⟨g7, 1, none⟩ (.int .i64 k) := ⟨_, rfl⟩
            rw [← ev1]
            have s7 : Wb v1 g7 (.slice ao n cap) (.int .i64 k) := by rw [ev1]; exact R7.set1 _
            have s8 : Wb v1 g8 (.slice ao n cap) (.int .i64 K) := by rw [ev1]; exact R8.kept (Below.heap_setCell _ _ _ _ (fun e => HN.out.1 e.symm))
            have s9 : Wb v1 g9 (.slice none 0 0) (.int .i64 0) := by rw [ev1]; exact R9.kept (Below.heap_setCell _ _ _ _ (fun e => HN.out.2.1 e.symm))
            have bv1 : Below w3.heap.size w3 v1 := by rw [ev1]; exact bd.setCell (p := ⟨g7, 1, none⟩) l7 _
            refine hK1.out _ _ ⟨(hU.out v1 bv1).1, trivial⟩ ?_
            clear hK1 K1 ev1 p1 p3 hH bd R7 R8 R9
            try simp only [Act.put, List.setIfInBounds_toArray, List.set_cons_zero, List.set_cons_succ]
            refine takeH (i := 6) (v := .pointer (some ⟨g8, 1, none⟩)) rfl (by kernel_rfl) (by kernel_rfl) (by kernel_rfl) (fun _ _ _ h => h) rfl ?_ ⟨(hU.out v1 bv1).1, trivial⟩ ?_
            · rintro v0 ⟨y0, _⟩
              go_simp
            try simp only [Act.put, List.setIfInBounds_toArray, List.set_cons_zero, List.set_cons_succ]
            refine stepH (i := 7) rfl (by kernel_rfl) rfl (fun K1 hK1 => ?_)
            have p1 := s8.c1
            have p3 := s8.f1
            go_simp
            obtain ⟨v2, ev2⟩ : ∃ v2, v2 = v1.setCell ⟨g8, 1, none⟩ (.int .i64 (n : Int)) := ⟨_, rfl⟩
            rw [← ev2]
            have t8 : Wb v2 g8 (.slice ao n cap) (.int .i64 (n : Int)) := by rw [ev2]; exact s8.set1 _
            have t7 : Wb v2 g7 (.slice ao n cap) (.int .i64 k) := by rw [ev2]; exact s7.kept (Below.heap_setCell _ _ _ _ HN.out.1)
            have t9 : Wb v2 g9 (.slice none 0 0) (.int .i64 0) := by rw [ev2]; exact s9.kept (Below.heap_setCell _ _ _ _ (fun e => HN.out.2.2 e.symm))
            have bv2 : Below w3.heap.size w3 v2 := by rw [ev2]; exact bv1.setCell (p := ⟨g8, 1, none⟩) l8 _
            refine hK1.out _ _ ⟨(hU.out v2 bv2).1, trivial⟩ ?_
            clear hK1 K1 ev2 p1 p3 s7 s8 s9 bv1
            refine wpAnyH_done (by kernel_rfl) ?_ _
            obtain ⟨B, hBe⟩ : ∃ B, v2.heap.size = B := ⟨_, rfl⟩
            have b7 : g7 < B := by rw [← hBe]; exact t7.lt
            have b8 : g8 < B := by rw [← hBe]; exact t8.lt
            have b9 : g9 < B := by rw [← hBe]; exact t9.lt
            have F0 : Hid (Fg w3 B g7 g8 g9 (.slice ao n cap) (.int .i64 k) (.slice ao n cap) (.int .i64 (n : Int)) v2 (.slice none 0 0) 0) := ⟨bv2, t7, t8, t9, ownC_nil _ _, by omega⟩
            have hl0 := (hU.out v2 bv2).1
            have hB3 : w3.heap.size ≤ B := by rw [← hBe]; exact bv2.size
            have CFu : Hid (∀ v : World, Calls Try.prog 23 #[] v fun e w' => e = .returned (.agg #[.int .u64 ((wd full 0 : Nat) : Int), .int .u64 ((wd full 1 : Nat) : Int), .int .u64 ((wd full 2 : Nat) : Int), .int .u64 ((wd full 3 : Nat) : Int)]) ∧ Below v.heap.size v w') := fun v => full_any v
            obtain ⟨i0, hi, hz0, hz1, hz2⟩ := infoC
            clear t7 t8 t9 bv2 HR hBe
            go_wp2_with fail
            clear hl0
            go_loopw [47] (fun vi wr => ∃ (j : Nat) (v : Value), j ≤ n ∧ vi = .int .i64 j ∧ Fg w3 B g7 g8 g9 (.slice ao n cap) (.int .i64 k) (.slice ao n cap) (.int .i64 (n : Int)) wr v j) (fun vi _ => n - (intOf vi).toNat)
            case atStart => exact ⟨0, _, Nat.zero_le _, rfl, F0.out⟩
            case round =>
              obtain ⟨j, v, hj, rfl, hF⟩ := hrel
              by_cases hjn : j < n
              · have hjI : (j : Int) < (n : Int) := by omega
                have c5 : Hid (∀ v', Below wr.heap.size wr v' → v'.cell? ⟨g9, 0, none⟩ = some v) := fun v' h => (h.cell (p := ⟨g9, 0, none⟩) hF.r9.lt).trans hF.r9.c0
                have c12 : Hid (∀ v4, Below wr.heap.size wr v4 → ∃ g' cap' we, (Builtin.append_ #[22, 22] 22 #[v, .slice (some ⟨v4.heap.size, 0, none⟩) 1 1]).run Try.prog (v4.alloc (.cells #[.int .u64 ((wd full 0 : Nat) : Int), .int .u64 ((wd full 1 : Nat) : Int), .int .u64 ((wd full 2 : Nat) : Int), .int .u64 ((wd full 3 : Nat) : Int)] 40)) = .ok (.slice (some ⟨g', 0, none⟩) (j + 1) cap') we ∧ we.cell? ⟨g9, 0, none⟩ = some v ∧ we.frozen? ⟨g9, 0, none⟩ = false ∧ Fg w3 B g7 g8 g9 (.slice ao n cap) (.int .i64 k) (.slice ao n cap) (.int .i64 (n : Int)) (we.setCell ⟨g9, 0, none⟩ (.slice (some ⟨g', 0, none⟩) (j + 1) cap')) (.slice (some ⟨g', 0, none⟩) (j + 1) cap') (j + 1)) := by
                  intro v4 b4
                  have own4 : v4.ownsRow B 40 4 v j (cls (List.replicate j full)) := by
                    have h := owns_below hF.own b4 (Nat.le_refl _)
                    rw [List.length_replicate] at h
                    exact h
                  have hBv : B ≤ v4.heap.size := Nat.le_trans hF.size b4.size
                  obtain ⟨v', we, hrun, h1, h2, _, _⟩ := run_append_own_at (P := Try.prog) (v4.alloc (.cells #[.int .u64 ((wd full 0 : Nat) : Int), .int .u64 ((wd full 1 : Nat) : Int), .int .u64 ((wd full 2 : Nat) : Int), .int .u64 ((wd full 3 : Nat) : Int)] 40)) B 22 22 40 i0 (.agg #[.int .u64 0, .int .u64 0, .int .u64 0, .int .u64 0]) 4 32 Try.underlying22 hi hz0 hz1 hz2 rfl (by decide) v j _ (own4.alloc _) ⟨v4.heap.size, 0, none⟩ 1 1 (cls [full]) rfl (new4 v4 full) (plain4 full) (by unfold maxLen; omega) (by omega) (by simp; omega)
                  obtain ⟨g', cap', rfl⟩ := ownsRow_succ h1
                  obtain ⟨q1, q2, q3⟩ := hF.step b4 l9 HN.out.2.1 HN.out.2.2 b7 b8 b9 hB3 h2 h1
                  exact ⟨g', cap', we, hrun, q1, q2, q3⟩
                clear hF
                go_wp2_with fail
                refine region_plain (S := fun _ => True) (by kernel_rfl) ?_
                have bd : Below wr.heap.size wr wr.drew := (Below.refl _ _).drew
                refine takeH (i := 0) (v := .pointer (some ⟨g9, 0, none⟩)) rfl (by kernel_rfl) (by kernel_rfl) (by kernel_rfl) (fun _ _ _ h => h) rfl ?_ trivial ?_
                · rintro v0 _
                  go_simp
                try simp only [Act.put, List.setIfInBounds_toArray, List.set_cons_zero, List.set_cons_succ]
                obtain ⟨W0, hW0⟩ : ∃ W0, W0 = wr.drew := ⟨_, rfl⟩
                rw [← hW0]
                have bW0 : Below wr.heap.size wr W0 := by rw [hW0]; exact bd
                clear hW0 bd
                refine stepH2 (i := 1) (j := 2) rfl rfl (by kernel_rfl) rfl rfl (fun K1 hK1 => ?_) (fun K1 hK1 => ?_)
                · have c5W0 := c5.out W0 bW0
                  go_simp
                  refine hK1.out _ _ trivial ?_
                  clear hK1 K1
                  try simp only [Act.put, List.setIfInBounds_toArray, List.set_cons_zero, List.set_cons_succ]
                  refine stepH (i := 2) rfl (by kernel_rfl) rfl (fun K1 hK1 => ?_)
                  go_simp
                  refine Calls.mono (CFu.out W0) ?_; rintro e Wa ⟨rfl, pWa⟩
                  have bWa : Below wr.heap.size wr Wa := bW0.trans (pWa.mono bW0.size)
                  refine hK1.out _ _ trivial ?_
                  clear hK1 K1
                  try simp only [Act.put, List.setIfInBounds_toArray, List.set_cons_zero, List.set_cons_succ]
                  refine stepH (i := 3) rfl (by kernel_rfl) rfl (fun K1 hK1 => ?_)
                  go_simp
                  refine hK1.out _ _ trivial ?_
                  clear hK1 K1
                  try simp only [Act.put, List.setIfInBounds_toArray, List.set_cons_zero, List.set_cons_succ]
                  obtain ⟨g', cap', we, hrun, e5, f5, q1⟩ := c12.out Wa bWa
                  refine stepH (i := 4) rfl (by kernel_rfl) rfl (fun K2 hK2 => ?_)
                  refine wp_append_eq (.tmp 50) (.tmp 52) 22 rfl _ _ _ _ rfl rfl hrun ?_
                  refine hK2.out _ _ trivial ?_
                  clear hK2 K2
                  try simp only [Act.put, List.setIfInBounds_toArray, List.set_cons_zero, List.set_cons_succ]
                  refine takeH (i := 5) (v := .pointer (some ⟨g9, 0, none⟩)) rfl (by kernel_rfl) (by kernel_rfl) (by kernel_rfl) (fun _ _ _ h => h) rfl ?_ trivial ?_
                  · rintro v0 _
                    go_simp
                  try simp only [Act.put, List.setIfInBounds_toArray, List.set_cons_zero, List.set_cons_succ]
                  refine stepH (i := 6) rfl (by kernel_rfl) rfl (fun K2 hK2 => ?_)
                  go_simp
                  refine hK2.out _ _ trivial ?_
                  clear hK2 K2
                  refine wpAnyH_done (by kernel_rfl) ?_ _
                  have HF : Hid (Fg w3 B g7 g8 g9 (.slice ao n cap) (.int .i64 k) (.slice ao n cap) (.int .i64 (n : Int)) (we.setCell ⟨g9, 0, none⟩ (.slice (some ⟨g', 0, none⟩) (j + 1) cap')) (.slice (some ⟨g', 0, none⟩) (j + 1) cap') (j + 1)) := q1
                  clear q1 e5 f5 hrun c12
                  go_wp2_with fail
                  go_roundw
                  case rel => exact ⟨j + 1, _, by omega, by go_num, HF.out⟩
                  case measure => simp [intOf]; omega
                · go_simp
                  refine Calls.mono (CFu.out W0) ?_; rintro e Wa ⟨rfl, pWa⟩
                  have bWa : Below wr.heap.size wr Wa := bW0.trans (pWa.mono bW0.size)
                  refine hK1.out _ _ trivial ?_
                  clear hK1 K1
                  try simp only [Act.put, List.setIfInBounds_toArray, List.set_cons_zero, List.set_cons_succ]
                  refine stepH2 (i := 1) (j := 3) rfl rfl (by kernel_rfl) rfl rfl (fun K1 hK1 => ?_) (fun K1 hK1 => ?_)
                  · have c5Wa := c5.out Wa bWa
                    go_simp
                    refine hK1.out _ _ trivial ?_
                    clear hK1 K1
                    try simp only [Act.put, List.setIfInBounds_toArray, List.set_cons_zero, List.set_cons_succ]
                    refine stepH (i := 3) rfl (by kernel_rfl) rfl (fun K1 hK1 => ?_)
                    go_simp
                    refine hK1.out _ _ trivial ?_
                    clear hK1 K1
                    try simp only [Act.put, List.setIfInBounds_toArray, List.set_cons_zero, List.set_cons_succ]
                    obtain ⟨g', cap', we, hrun, e5, f5, q1⟩ := c12.out Wa bWa
                    refine stepH (i := 4) rfl (by kernel_rfl) rfl (fun K2 hK2 => ?_)
                    refine wp_append_eq (.tmp 50) (.tmp 52) 22 rfl _ _ _ _ rfl rfl hrun ?_
                    refine hK2.out _ _ trivial ?_
                    clear hK2 K2
                    try simp only [Act.put, List.setIfInBounds_toArray, List.set_cons_zero, List.set_cons_succ]
                    refine takeH (i := 5) (v := .pointer (some ⟨g9, 0, none⟩)) rfl (by kernel_rfl) (by kernel_rfl) (by kernel_rfl) (fun _ _ _ h => h) rfl ?_ trivial ?_
                    · rintro v0 _
                      go_simp
                    try simp only [Act.put, List.setIfInBounds_toArray, List.set_cons_zero, List.set_cons_succ]
                    refine stepH (i := 6) rfl (by kernel_rfl) rfl (fun K2 hK2 => ?_)
                    go_simp
                    refine hK2.out _ _ trivial ?_
                    clear hK2 K2
                    refine wpAnyH_done (by kernel_rfl) ?_ _
                    have HF : Hid (Fg w3 B g7 g8 g9 (.slice ao n cap) (.int .i64 k) (.slice ao n cap) (.int .i64 (n : Int)) (we.setCell ⟨g9, 0, none⟩ (.slice (some ⟨g', 0, none⟩) (j + 1) cap')) (.slice (some ⟨g', 0, none⟩) (j + 1) cap') (j + 1)) := q1
                    clear q1 e5 f5 hrun c12
                    go_wp2_with fail
                    go_roundw
                    case rel => exact ⟨j + 1, _, by omega, by go_num, HF.out⟩
                    case measure => simp [intOf]; omega
                  · go_simp
                    refine hK1.out _ _ trivial ?_
                    clear hK1 K1
                    try simp only [Act.put, List.setIfInBounds_toArray, List.set_cons_zero, List.set_cons_succ]
                    refine stepH (i := 1) rfl (by kernel_rfl) rfl (fun K1 hK1 => ?_)
                    have c5a := c5.out _ (bWa.alloc bWa.size (.cells #[.int .u64 ((wd full 0 : Nat) : Int), .int .u64 ((wd full 1 : Nat) : Int), .int .u64 ((wd full 2 : Nat) : Int), .int .u64 ((wd full 3 : Nat) : Int)] 40))
                    go_simp
                    refine hK1.out _ _ trivial ?_
                    clear hK1 K1
                    try simp only [Act.put, List.setIfInBounds_toArray, List.set_cons_zero, List.set_cons_succ]
                    obtain ⟨g', cap', we, hrun, e5, f5, q1⟩ := c12.out Wa bWa
                    refine stepH (i := 4) rfl (by kernel_rfl) rfl (fun K2 hK2 => ?_)
                    refine wp_append_eq (.tmp 50) (.tmp 52) 22 rfl _ _ _ _ rfl rfl hrun ?_
                    refine hK2.out _ _ trivial ?_
                    clear hK2 K2
                    try simp only [Act.put, List.setIfInBounds_toArray, List.set_cons_zero, List.set_cons_succ]
                    refine takeH (i := 5) (v := .pointer (some ⟨g9, 0, none⟩)) rfl (by kernel_rfl) (by kernel_rfl) (by kernel_rfl) (fun _ _ _ h => h) rfl ?_ trivial ?_
                    · rintro v0 _
                      go_simp
                    try simp only [Act.put, List.setIfInBounds_toArray, List.set_cons_zero, List.set_cons_succ]
                    refine stepH (i := 6) rfl (by kernel_rfl) rfl (fun K2 hK2 => ?_)
                    go_simp
                    refine hK2.out _ _ trivial ?_
                    clear hK2 K2
                    refine wpAnyH_done (by kernel_rfl) ?_ _
                    have HF : Hid (Fg w3 B g7 g8 g9 (.slice ao n cap) (.int .i64 k) (.slice ao n cap) (.int .i64 (n : Int)) (we.setCell ⟨g9, 0, none⟩ (.slice (some ⟨g', 0, none⟩) (j + 1) cap')) (.slice (some ⟨g', 0, none⟩) (j + 1) cap') (j + 1)) := q1
                    clear q1 e5 f5 hrun c12
                    go_wp2_with fail
                    go_roundw
                    case rel => exact ⟨j + 1, _, by omega, by go_num, HF.out⟩
                    case measure => simp [intOf]; omega
              · obtain rfl : n = j := by omega
                obtain ⟨fo, fc, e, hLf⟩ := ownC_lf hF.own (by rw [List.length_replicate]; omega)
                subst e
                rw [List.length_replicate] at hF hLf
                obtain ⟨G, hG⟩ : ∃ G, at' (List.replicate n full) = G := ⟨_, rfl⟩
                rw [hG] at hLf
                have hGt : ∀ t, t < n → G t = full := fun t ht => by rw [← hG, at_get (by rw [List.length_replicate]; exact ht)]; simp
                obtain ⟨hrg, hmg⟩ := free_leaf g1 g2 hGt
                have TL := TT.out.grow hF.bel
                have T4 : Hid (Lv w wr w.heap.size ao n cap P K ∧ Lv w wr g7 ao n cap P k ∧ Lv w wr g8 ao n cap P (n : Int) ∧ Lv w wr g9 fo n fc G 0) := ⟨TL, ⟨TL.bel, ⟨hF.r7.c0, hF.r7.c1⟩, TL.l⟩, ⟨TL.bel, ⟨hF.r8.c0, hF.r8.c1⟩, TL.l⟩, ⟨TL.bel, ⟨hF.r9.c0, hF.r9.c1⟩, hLf⟩⟩
                have hr7 : rgt P n k = true := rgt_other hr (by omega) hk64'
                have hr8 : rgt P n (n : Int) = true := rgt_other hr (by omega) (by omega)
                obtain ⟨M, hM⟩ : ∃ M, stn P n K s.size = M := ⟨_, rfl⟩
                have l8 : (fnd P n (n : Int) s).length = M := by rw [fnd_all (fun i => by have := mis_le P s i n; omega), stn_other hr hr8, hM]
                have l9 : (fnd G n 0 s).length = M := by rw [fnd_all (fun i => by rw [hmg s i]; decide), stn_free hr hrg, hM]
                have HV0 : Hid _ := fun j hj => fnd_in (s := s) hr hr7 hkK' j hj
                obtain ⟨F0, hF0⟩ : ∃ F0, fnd P n K s = F0 := ⟨_, rfl⟩
                obtain ⟨F1, hF1⟩ : ∃ F1, fnd P n k s = F1 := ⟨_, rfl⟩
                obtain ⟨F8, hF8⟩ : ∃ F8, fnd P n (n : Int) s = F8 := ⟨_, rfl⟩
                obtain ⟨F9, hF9⟩ : ∃ F9, fnd G n 0 s = F9 := ⟨_, rfl⟩
                rw [hF0, hF1] at HV0
                have hf0 : ∃ f0, F0.length = f0 := ⟨_, rfl⟩
                obtain ⟨f0, hf0⟩ := hf0
                obtain ⟨f1, hf1⟩ : ∃ f1, F1.length = f1 := ⟨_, rfl⟩
                have hM8 : F8.length = M := by rw [← hF8]; exact l8
                have hM9 : F9.length = M := by rw [← hF9]; exact l9
                have q0 : f0 ≤ 301 := by rw [← hf0, ← hF0]; have := fnd_len P n K s; omega
                have q1 : f1 ≤ 301 := by rw [← hf1, ← hF1]; have := fnd_len P n k s; omega
                have C0 : Hid (∀ (v : World), Lf v ao n P → Calls Try.prog 18 #[.agg #[.slice ao n cap, .int .i64 K], .string s] v fun e w' => (∃ bo d, e = .returned (.slice bo f0 d) ∧ Is w' bo F0) ∧ Below v.heap.size v w') := fun v hv => by
                  have h := find_any P n cap ao K s (by omega) v hv
                  rw [hF0] at h
                  exact h.mono (fun e w' ⟨⟨bo, d, he, hi, _⟩, hb⟩ => ⟨⟨bo, d, by rw [he, hf0], hi⟩, hb⟩)
                have C1 : Hid (∀ (v : World), Lf v ao n P → Calls Try.prog 18 #[.agg #[.slice ao n cap, .int .i64 k], .string s] v fun e w' => (∃ bo d, e = .returned (.slice bo f1 d) ∧ Is w' bo F1) ∧ Below v.heap.size v w') := fun v hv => by
                  have h := find_any P n cap ao k s (by omega) v hv
                  rw [hF1] at h
                  exact h.mono (fun e w' ⟨⟨bo, d, he, hi, _⟩, hb⟩ => ⟨⟨bo, d, by rw [he, hf1], hi⟩, hb⟩)
                have C8 : Hid (∀ (v : World), Lf v ao n P → Calls Try.prog 18 #[.agg #[.slice ao n cap, .int .i64 (n : Int)], .string s] v fun e w' => (∃ bo d, e = .returned (.slice bo M d)) ∧ Below v.heap.size v w') := fun v hv => by
                  have h := find_any P n cap ao (n : Int) s (by omega) v hv
                  rw [hF8] at h
                  exact h.mono (fun e w' ⟨⟨bo, d, he, _⟩, hb⟩ => ⟨⟨bo, d, by rw [he, hM8]⟩, hb⟩)
                have C9 : Hid (∀ (v : World), Lf v fo n G → Calls Try.prog 18 #[.agg #[.slice fo n fc, .int .i64 0], .string s] v fun e w' => (∃ bo d, e = .returned (.slice bo M d)) ∧ Below v.heap.size v w') := fun v hv => by
                  have h := find_any G n fc fo 0 s (by omega) v hv
                  rw [hF9] at h
                  exact h.mono (fun e w' ⟨⟨bo, d, he, _⟩, hb⟩ => ⟨⟨bo, d, by rw [he, hM9]⟩, hb⟩)
                have HV : Hid (∀ j, j < f0 → ∃ x q : Nat, F0[j]? = some x ∧ q < f1 ∧ F1[q]? = some x ∧ (∀ t, t < q → ∃ y, F1[t]? = some y ∧ y < x) ∧ (∀ j' x', j < j' → F0[j']? = some x' → x < x')) := fun j hj => by
                  obtain ⟨x, q, h1, h2, h3⟩ := HV0.out j (by rw [hf0]; exact hj)
                  exact ⟨x, q, h1, by rw [← hf1]; exact h2, h3⟩
                have HL : Hid (F0.length = f0 ∧ F1.length = f1) := ⟨hf0, hf1⟩
                have HM : Hid ((n ≤ s.size → M + n = s.size + 1) ∧ (s.size < n → M = 0)) := ⟨fun h => by rw [← hM, stn_yes hr h]; omega, fun h => by rw [← hM]; exact stn_no (fun h' => by omega)⟩
                clear hF hLf TL hG hGt hrg hmg hr7 hr8 l8 l9 HV0 hF0 hF1 hF8 hF9 hf0 hf1 hM8 hM9 hM TT hU CFu HN
                obtain ⟨e0, e1⟩ := T4.out.2.1.c
                go_wp2_with fail
                refine Calls.mono (C1.out wr T4.out.2.1.l) ?_; rintro e w5 ⟨⟨o1, d1, rfl, i1⟩, bw5⟩
                have I1 : Hid (Is w5 o1 F1) := i1
                have T4' : Hid (Lv w w5 w.heap.size ao n cap P K ∧ Lv w w5 g7 ao n cap P k ∧ Lv w w5 g8 ao n cap P (n : Int) ∧ Lv w w5 g9 fo n fc G 0) := ⟨T4.out.1.grow bw5, T4.out.2.1.grow bw5, T4.out.2.2.1.grow bw5, T4.out.2.2.2.grow bw5⟩
                clear T4
                have T4 : Hid (Lv w w5 w.heap.size ao n cap P K ∧ Lv w w5 g7 ao n cap P k ∧ Lv w w5 g8 ao n cap P (n : Int) ∧ Lv w w5 g9 fo n fc G 0) := T4'.out
                clear T4'
                clear i1 bw5 e0 e1 C1
                obtain ⟨e0, e1⟩ := T4.out.1.c
                go_wp2_with fail
                refine Calls.mono (C0.out w5 T4.out.1.l) ?_; rintro e w6 ⟨⟨o0, d0, rfl, i0'⟩, bw6⟩
                have I6 : Hid (Is w6 o0 F0 ∧ Is w6 o1 F1) := ⟨i0', I1.out.grow bw6⟩
                have T4' : Hid (Lv w w6 w.heap.size ao n cap P K ∧ Lv w w6 g7 ao n cap P k ∧ Lv w w6 g8 ao n cap P (n : Int) ∧ Lv w w6 g9 fo n fc G 0) := ⟨T4.out.1.grow bw6, T4.out.2.1.grow bw6, T4.out.2.2.1.grow bw6, T4.out.2.2.2.grow bw6⟩
                clear T4
                have T4 : Hid (Lv w w6 w.heap.size ao n cap P K ∧ Lv w w6 g7 ao n cap P k ∧ Lv w w6 g8 ao n cap P (n : Int) ∧ Lv w w6 g9 fo n fc G 0) := T4'.out
                clear T4'
                clear i0' bw6 e0 e1 C0 I1
                go_wp2_with fail
                go_loopw [10, 63] (fun va vj wr => Below w6.heap.size w6 wr ∧ ∃ j a : Nat, j ≤ f0 ∧ a ≤ f1 ∧ vj = .int .i64 j ∧ va = .int .i64 a ∧ ∀ j' x' q', j ≤ j' → F0[j']? = some x' → F1[q']? = some x' → a ≤ q') (fun _ vj _ => f0 - (intOf vj).toNat)
                case atStart => exact ⟨Below.refl _ _, 0, 0, Nat.zero_le _, Nat.zero_le _, rfl, rfl, fun _ _ _ _ _ _ => Nat.zero_le _⟩
                case round =>
                  obtain ⟨hbel, j, a, hj, ha, rfl, rfl, hinv⟩ := hrel
                  have HB : Hid (Below w6.heap.size w6 wr) := hbel
                  have HI : Hid (∀ j' x' q', j ≤ j' → F0[j']? = some x' → F1[q']? = some x' → a ≤ q') := hinv
                  have IR : Hid (Is wr o0 F0 ∧ Is wr o1 F1) := ⟨I6.out.1.grow hbel, I6.out.2.grow hbel⟩
                  clear hbel hinv
                  by_cases hjf : j < f0
                  · have hjI : (j : Int) < (f0 : Int) := by omega
                    obtain ⟨x, q, hx, hq, hqx, hlow, hup⟩ := HV.out j hjf
                    obtain ⟨b0, rfl, _, hc0⟩ := IR.out.1 (by rw [HL.out.1]; omega)
                    have cx := hc0 j (by rw [HL.out.1]; exact hjf)
                    rw [(List.getElem?_eq_some_iff.1 hx).2] at cx
                    have haq : a ≤ q := HI.out j x q (Nat.le_refl _) hx hqx
                    have HX : Hid (F1[q]? = some x ∧ (∀ t, t < q → ∃ y, F1[t]? = some y ∧ y < x) ∧ (∀ j' x', j < j' → F0[j']? = some x' → x < x')) := ⟨hqx, hlow, hup⟩
                    clear hc0 hx hqx hlow hup HI
                    go_wp2_with fail
                    rename World => wo
                    go_loopw [10] (fun va wr => Below w6.heap.size w6 wr ∧ ∃ a : Nat, a ≤ q ∧ va = .int .i64 a) (fun va _ => q - (intOf va).toNat)
                    case atStart => exact ⟨HB.out, a, haq, rfl⟩
                    case round =>
                      obtain ⟨hbel, a, haq, rfl⟩ := hrel
                      have HB2 : Hid (Below w6.heap.size w6 wr) := hbel
                      have I1 : Is wr o1 F1 := I6.out.2.grow hbel
                      clear hbel
                      obtain ⟨b1, rfl, _, hc1⟩ := I1 (by rw [HL.out.2]; omega)
                      have haf : (a : Int) < (f1 : Int) := by omega
                      by_cases haq2 : a < q
                      · obtain ⟨y, hy, hyx⟩ := HX.out.2.1 a haq2
                        have cy := hc1 a (by rw [HL.out.2]; omega)
                        rw [(List.getElem?_eq_some_iff.1 hy).2] at cy
                        have hyI : (y : Int) < (x : Int) := by omega
                        clear hc1 hy
                        go_wp2_with fail
                        go_roundw
                        case rel => exact ⟨HB2.out, a + 1, by omega, by go_num⟩
                        case measure => simp [intOf]; omega
                      · obtain rfl : q = a := by omega
                        have cy := hc1 q (by rw [HL.out.2]; omega)
                        rw [(List.getElem?_eq_some_iff.1 HX.out.1).2] at cy
                        clear hc1
                        go_wp2_with fail
                        refine ⟨⟨HB2.out, j + 1, q, by omega, by omega, by go_num, rfl, ?_⟩, by simp [intOf]; omega⟩
                        intro j' x' q' hj' hx' hq'
                        by_cases h : q' < q
                        · obtain ⟨y, hy, hyx⟩ := HX.out.2.1 q' h
                          rw [hq'] at hy
                          cases hy
                          have := HX.out.2.2 j' x' (by omega) hx'
                          omega
                        · omega
                  · obtain rfl : f0 = j := by omega
                    have bwr : Below w6.heap.size w6 wr := HB.out
                    have T4' : Hid (Lv w wr w.heap.size ao n cap P K ∧ Lv w wr g7 ao n cap P k ∧ Lv w wr g8 ao n cap P (n : Int) ∧ Lv w wr g9 fo n fc G 0) := ⟨T4.out.1.grow bwr, T4.out.2.1.grow bwr, T4.out.2.2.1.grow bwr, T4.out.2.2.2.grow bwr⟩
                    clear T4
                    have T4 : Hid (Lv w wr w.heap.size ao n cap P K ∧ Lv w wr g7 ao n cap P k ∧ Lv w wr g8 ao n cap P (n : Int) ∧ Lv w wr g9 fo n fc G 0) := T4'.out
                    clear T4'
                    obtain ⟨e0, e1⟩ := T4.out.1.c
                    have HM' := HM.out
                    clear bwr HB IR I6 HV HI HL HM
                    by_cases hNs : n ≤ s.size
                    · have e := HM'.1 hNs
                      have hq : (s.size : Int) - (n : Int) + 1 = (M : Int) := by omega
                      have hi0 : 0 < (M : Int) := by omega
                      have hi0' : (0 : Int) ≤ (M : Int) := by omega
                      clear HM'
                      go_wp2_with fail
                      refine Calls.mono (CA.out wr) ?_; rintro e w7 ⟨rfl, bw7⟩
                      have T4' : Hid (Lv w w7 w.heap.size ao n cap P K ∧ Lv w w7 g7 ao n cap P k ∧ Lv w w7 g8 ao n cap P (n : Int) ∧ Lv w w7 g9 fo n fc G 0) := ⟨T4.out.1.grow bw7, T4.out.2.1.grow bw7, T4.out.2.2.1.grow bw7, T4.out.2.2.2.grow bw7⟩
                      clear T4
                      have T4 : Hid (Lv w w7 w.heap.size ao n cap P K ∧ Lv w w7 g7 ao n cap P k ∧ Lv w w7 g8 ao n cap P (n : Int) ∧ Lv w w7 g9 fo n fc G 0) := T4'.out
                      clear T4'
                      clear bw7 e0 e1
                      obtain ⟨e0, e1⟩ := T4.out.2.2.1.c
                      go_wp2_with fail
                      refine Calls.mono (C8.out w7 T4.out.2.2.1.l) ?_; rintro e w8 ⟨⟨o8, d8, rfl⟩, bw8⟩
                      have T4' : Hid (Lv w w8 w.heap.size ao n cap P K ∧ Lv w w8 g7 ao n cap P k ∧ Lv w w8 g8 ao n cap P (n : Int) ∧ Lv w w8 g9 fo n fc G 0) := ⟨T4.out.1.grow bw8, T4.out.2.1.grow bw8, T4.out.2.2.1.grow bw8, T4.out.2.2.2.grow bw8⟩
                      clear T4
                      have T4 : Hid (Lv w w8 w.heap.size ao n cap P K ∧ Lv w w8 g7 ao n cap P k ∧ Lv w w8 g8 ao n cap P (n : Int) ∧ Lv w w8 g9 fo n fc G 0) := T4'.out
                      clear T4'
                      clear bw8 e0 e1
                      obtain ⟨e0, e1⟩ := T4.out.2.2.2.c
                      go_wp2_with fail
                      refine Calls.mono (C9.out w8 T4.out.2.2.2.l) ?_; rintro e w9 ⟨⟨o9, d9, rfl⟩, bw9⟩
                      have T4' : Hid (Lv w w9 w.heap.size ao n cap P K ∧ Lv w w9 g7 ao n cap P k ∧ Lv w w9 g8 ao n cap P (n : Int) ∧ Lv w w9 g9 fo n fc G 0) := ⟨T4.out.1.grow bw9, T4.out.2.1.grow bw9, T4.out.2.2.1.grow bw9, T4.out.2.2.2.grow bw9⟩
                      clear T4
                      have T4 : Hid (Lv w w9 w.heap.size ao n cap P K ∧ Lv w w9 g7 ao n cap P k ∧ Lv w w9 g8 ao n cap P (n : Int) ∧ Lv w w9 g9 fo n fc G 0) := T4'.out
                      clear T4'
                      clear bw9 e0 e1
                      go_wp2_with fail
                      go_ret
                      exact ⟨rfl, T4.out.1.bel⟩
                    · have e := HM'.2 (by omega)
                      subst e
                      have hq : (s.size : Int) - (n : Int) + 1 ≤ 0 := by omega
                      clear HM'
                      go_wp2_with fail
                      refine Calls.mono (CA.out wr) ?_; rintro e w7 ⟨rfl, bw7⟩
                      have T4' : Hid (Lv w w7 w.heap.size ao n cap P K ∧ Lv w w7 g7 ao n cap P k ∧ Lv w w7 g8 ao n cap P (n : Int) ∧ Lv w w7 g9 fo n fc G 0) := ⟨T4.out.1.grow bw7, T4.out.2.1.grow bw7, T4.out.2.2.1.grow bw7, T4.out.2.2.2.grow bw7⟩
                      clear T4
                      have T4 : Hid (Lv w w7 w.heap.size ao n cap P K ∧ Lv w w7 g7 ao n cap P k ∧ Lv w w7 g8 ao n cap P (n : Int) ∧ Lv w w7 g9 fo n fc G 0) := T4'.out
                      clear T4'
                      clear bw7 e0 e1
                      obtain ⟨e0, e1⟩ := T4.out.2.2.1.c
                      go_wp2_with fail
                      refine Calls.mono (C8.out w7 T4.out.2.2.1.l) ?_; rintro e w8 ⟨⟨o8, d8, rfl⟩, bw8⟩
                      have T4' : Hid (Lv w w8 w.heap.size ao n cap P K ∧ Lv w w8 g7 ao n cap P k ∧ Lv w w8 g8 ao n cap P (n : Int) ∧ Lv w w8 g9 fo n fc G 0) := ⟨T4.out.1.grow bw8, T4.out.2.1.grow bw8, T4.out.2.2.1.grow bw8, T4.out.2.2.2.grow bw8⟩
                      clear T4
                      have T4 : Hid (Lv w w8 w.heap.size ao n cap P K ∧ Lv w w8 g7 ao n cap P k ∧ Lv w w8 g8 ao n cap P (n : Int) ∧ Lv w w8 g9 fo n fc G 0) := T4'.out
                      clear T4'
                      clear bw8 e0 e1
                      obtain ⟨e0, e1⟩ := T4.out.2.2.2.c
                      go_wp2_with fail
                      refine Calls.mono (C9.out w8 T4.out.2.2.2.l) ?_; rintro e w9 ⟨⟨o9, d9, rfl⟩, bw9⟩
                      have T4' : Hid (Lv w w9 w.heap.size ao n cap P K ∧ Lv w w9 g7 ao n cap P k ∧ Lv w w9 g8 ao n cap P (n : Int) ∧ Lv w w9 g9 fo n fc G 0) := ⟨T4.out.1.grow bw9, T4.out.2.1.grow bw9, T4.out.2.2.1.grow bw9, T4.out.2.2.2.grow bw9⟩
                      clear T4
                      have T4 : Hid (Lv w w9 w.heap.size ao n cap P K ∧ Lv w w9 g7 ao n cap P k ∧ Lv w w9 g8 ao n cap P (n : Int) ∧ Lv w w9 g9 fo n fc G 0) := T4'.out
                      clear T4'
                      clear bw9 e0 e1
                      go_wp2_with fail
                      go_ret
                      exact ⟨rfl, T4.out.1.bel⟩
  · rw [decide_eq_false hn] at CF
    clear b1 hp hn
    go_enter Try.func8, Try.ntmps8
    go_wp2_with (first | rw [← E1.out])
    clear E1
    refine Calls.mono (Hid.out CF) ?_; rintro e w2 ⟨rfl, b2⟩
    have B2 : Hid (Below w.heap.size w w2) := B1.out.trans (b2.mono B1.out.size)
    clear b2 CF c0 c1
    go_wp2_with fail
    refine Calls.mono (CA.out w2) ?_; rintro e w3 ⟨rfl, b3⟩
    have B3 : Hid (Below w.heap.size w w3) := B2.out.trans (b3.mono B2.out.size)
    clear b3 CA
    go_wp2_with fail
    go_ret
    exact ⟨rfl, B3.out⟩

end Go.Proofs.Ytpogipingefkaaa.naiveGreater
