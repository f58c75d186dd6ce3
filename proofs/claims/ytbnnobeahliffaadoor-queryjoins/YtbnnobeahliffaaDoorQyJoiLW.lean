/- The walk of 'beaglelaw14.QueryJoins': it answers true; nothing that was there is turned. For the statement's proof. -/
import Derived.OpenShut
import Derived.ProofKit
import Derived.Test.YtbnnobeahliffaaDoorQyJo
import Derived.Test.YtbnnobeahliffaaDoorQyE
namespace Go.Proofs.YtbnnobeahliffaaDoor.queryJoins
open Go.ChangeShapes Go.WideShapes Go.ChangeAt Go.RowKit Cls
set_option linter.unusedVariables false

/-- A row's cut, ahead and behind. -/
theorem cut_mid {w : World} {g : Nat} {R : List Qv} {x : Qn} {l m : List Qn} (h : QR w (some ⟨g, 0, none⟩) R) (hq : qis R = x :: (l ++ m)) :
    (QR w (some ⟨g, 4, none⟩) ((R.drop 1).take l.length) ∧ ((R.drop 1).take l.length).length = l.length ∧ qis ((R.drop 1).take l.length) = l) ∧
    (QR w (some ⟨g, (1 + l.length) * 4, none⟩) (R.drop (1 + l.length)) ∧ (R.drop (1 + l.length)).length = m.length ∧ qis (R.drop (1 + l.length)) = m) ∧ w.cell? ⟨g, 0, none⟩ = some (.int .i64 x.kind) := by
  have hl : R.length = 1 + (l.length + m.length) := by have := congrArg List.length hq; rw [qis_len, List.length_cons, List.length_append] at this; omega
  have q1 : qis (R.drop 1) = l ++ m := by unfold qis at hq ⊢; rw [List.map_drop, hq]; rfl
  have c1 := h.cut 1
  rw [show 0 + 1 * 4 = 4 from rfl] at c1
  have c2 := h.cut (1 + l.length)
  rw [Nat.zero_add] at c2
  refine ⟨⟨c1.take _, ?_, ?_⟩, ⟨c2, ?_, ?_⟩, ?_⟩
  · rw [List.length_take, List.length_drop, hl]; omega
  · unfold qis at q1 ⊢; rw [List.map_take, q1, List.take_left' rfl]
  · rw [List.length_drop, hl]; omega
  · unfold qis at q1 ⊢; rw [← List.drop_drop, List.map_drop, q1, List.drop_left' rfl]
  · obtain ⟨b, o, e, _, hC⟩ := h.lies (by omega)
    cases e
    have c0 := (hC 0 (by omega)).c0
    rw [Nat.zero_mul, Nat.add_zero] at c0
    have hx : (R[0]'(by omega)).i = x := by
      have h2 : (qis R)[0]? = some x := by rw [hq]; rfl
      unfold qis at h2
      rw [List.getElem?_map, List.getElem?_eq_getElem (by omega)] at h2
      simpa using h2
    rw [hx] at c0
    exact c0

/-- The first of a row of one's own. -/
theorem first_cell {w : World} {g : Nat} {R : List Qv} {l : List Qn} (h : QR w (some ⟨g, 0, none⟩) R) (hq : qis R = l) (y : Qn) (M : List Qn) (hl : l = y :: M) : w.cell? ⟨g, 0, none⟩ = some (.int .i64 y.kind) :=
  (cut_mid (l := []) (m := M) h (hq.trans hl)).2.2

set_option maxRecDepth 100000 in
set_option maxHeartbeats 4000000 in
theorem walk (s t : ByteArray) (w : World) (hs : s.size ≤ maxLen) (ht : t.size ≤ maxLen) (hT : TabB w) (hX : TabX w) :
    Calls Tryd.prog 7 #[.string s, .string t] w fun e w' => e = .returned (.bool true) ∧ Below w.heap.size w w' := by
  have HT : Hid (T2 w) := ⟨hT, hX⟩
  by_cases h9 : (900 : Int) < wrap64 ((s.size : Int) + (t.size : Int))
  · go_enter Tryd.func7, Tryd.ntmps7
    go_wp2_with fail
    refine Calls.mono (alive14_any w HT.out.1 HT.out.2) ?_; rintro e w1 ⟨rfl, b1⟩
    have B1 : Hid (Below w.heap.size w w1) := b1
    clear b1
    go_wp2_with fail
    go_ret
    exact ⟨rfl, B1.out⟩
  · have CP1 : Hid _ := qparse_all s w
    have CP2 : Hid _ := fun v => qparse_all t v
    have CO : Hid _ := fun v => qparse_all ((s ++ ⟨#[124]⟩) ++ t) v
    have CAN : Hid _ := fun v => qparse_all ((s ++ ⟨#[38]⟩) ++ t) v
    unfold Prs at CP1 CP2 CO CAN
    obtain ⟨l, p, c, hps⟩ : ∃ l p c, qpar s = (l, p, c) := ⟨_, _, _, rfl⟩
    obtain ⟨m, p', c', hpt⟩ : ∃ l p c, qpar t = (l, p, c) := ⟨_, _, _, rfl⟩
    have hfl := qpar_few s
    have hfm := qpar_few t
    rw [hps] at CP1 hfl
    rw [hpt] at CP2 hfm
    have hfl : l.length ≤ 64 := hfl
    have hfm : m.length ≤ 64 := hfm
    have HS1 : Hid (c = 0 → s.size ≤ 1000) := fun e => by subst e; exact (lex_told (qpar_ok hps).2.1).1
    have HS2 : Hid (c' = 0 → t.size ≤ 1000) := fun e => by subst e; exact (lex_told (qpar_ok hpt).2.1).1
    have HPS : Hid _ := hps
    have HPT : Hid _ := hpt
    have H9 : Hid _ := h9
    clear hps hpt hs ht hT hX
    go_enter Tryd.func7, Tryd.ntmps7
    go_wp2_with fail
    clear h9
    refine Calls.mono CP1.out ?_; rintro e w1 ⟨⟨lo, a, lc, rfl, R1, r1, r2, r3⟩, b1⟩
    have T1 : Hid _ := HT.out.grow b1
    have B1 : Hid (Below w.heap.size w w1) := b1
    have HA : Hid (l.length = a) := by show _ = _; rw [← r1, ← qis_len, r3]
    have ha9 : a ≤ 64 := by have := HA.out; omega
    have O1 : Hid (OQ w1 w.heap.size 40 (.slice lo a lc) R1) := r2
    have HR1 : Hid (R1.length = a ∧ qis R1 = l) := ⟨r1, r3⟩
    clear b1 r1 r2 r3 CP1
    go_wp2_with fail
    refine Calls.mono (CP2.out w1) ?_; rintro e w2 ⟨⟨mo, b, mc, rfl, R2, r1, r2, r3⟩, b2⟩
    have T2 : Hid _ := T1.out.grow b2
    have B2 : Hid (Below w.heap.size w w2) := bgrow' B1.out b2
    have HB : Hid (m.length = b) := by show _ = _; rw [← r1, ← qis_len, r3]
    have hb9 : b ≤ 64 := by have := HB.out; omega
    have O1 : Hid (OQ w2 w.heap.size 40 (.slice lo a lc) R1) := O1.out.grow b2
    have O2 : Hid (OQ w2 w1.heap.size 40 (.slice mo b mc) R2) := r2
    have HR2 : Hid (R2.length = b ∧ qis R2 = m) := ⟨r1, r3⟩
    clear b2 r1 r2 r3 CP2 T1 B1
    by_cases hc : ¬ c = 0
    · have q1 : ((c : Int) != 0) = true := by simpa using (show ¬ (c : Int) = 0 by omega)
      clear hc CO CAN

      go_wp2_with fail
      refine Calls.mono (alive14_any w2 T2.out.1 T2.out.2) ?_; rintro e w9 ⟨rfl, b9⟩
      have B9 : Hid (Below w.heap.size w w9) := bgrow' B2.out b9
      clear b9
      go_wp2_with fail
      go_ret
      exact ⟨rfl, B9.out⟩
    · skip
      have hc : c = 0 := by omega
      have HSA : Hid (s.size ≤ 1000) := HS1.out hc
      clear HS1
      subst hc
      by_cases hc : ¬ c' = 0
      · have q1 : ((c' : Int) != 0) = true := by simpa using (show ¬ (c' : Int) = 0 by omega)
        clear hc CO CAN

        go_wp2_with fail
        refine Calls.mono (alive14_any w2 T2.out.1 T2.out.2) ?_; rintro e w9 ⟨rfl, b9⟩
        have B9 : Hid (Below w.heap.size w w9) := bgrow' B2.out b9
        clear b9
        go_wp2_with fail
        go_ret
        exact ⟨rfl, B9.out⟩
      · skip
        have hc : c' = 0 := by omega
        have HSB : Hid (t.size ≤ 1000) := HS2.out hc
        clear HS2
        subst hc
        by_cases ha : a = 0
        · subst ha
          clear CO CAN

          go_wp2_with fail
          refine Calls.mono (alive14_any w2 T2.out.1 T2.out.2) ?_; rintro e w9 ⟨rfl, b9⟩
          have B9 : Hid (Below w.heap.size w w9) := bgrow' B2.out b9
          clear b9
          go_wp2_with fail
          go_ret
          exact ⟨rfl, B9.out⟩
        · skip
          by_cases hb : b = 0
          · subst hb
            have qa : ((a : Int) == 0) = false := by rw [beq_eq_false_iff_ne]; omega
            clear CO CAN

            go_wp2_with fail
            refine Calls.mono (alive14_any w2 T2.out.1 T2.out.2) ?_; rintro e w9 ⟨rfl, b9⟩
            have B9 : Hid (Below w.heap.size w w9) := bgrow' B2.out b9
            clear b9
            go_wp2_with fail
            go_ret
            exact ⟨rfl, B9.out⟩
          · skip
            by_cases h64 : 64 ≤ a + b
            · have qa : ((a : Int) == 0) = false := by rw [beq_eq_false_iff_ne]; omega
              have qb : ((b : Int) == 0) = false := by rw [beq_eq_false_iff_ne]; omega
              have h64I : (64 : Int) ≤ (a : Int) + (b : Int) := by omega
              clear CO CAN ha hb

              go_wp2_with fail
              refine Calls.mono (alive14_any w2 T2.out.1 T2.out.2) ?_; rintro e w9 ⟨rfl, b9⟩
              have B9 : Hid (Below w.heap.size w w9) := bgrow' B2.out b9
              clear b9
              go_wp2_with fail
              go_ret
              exact ⟨rfl, B9.out⟩
            · skip
              have qa : ((a : Int) == 0) = false := by rw [beq_eq_false_iff_ne]; omega
              have qb : ((b : Int) == 0) = false := by rw [beq_eq_false_iff_ne]; omega
              have h64I : ¬ (64 : Int) ≤ (a : Int) + (b : Int) := by omega
              obtain ⟨hl1, hl2, g1, hg1⟩ := O1.out.room HR1.out.1 (by omega)
              subst hg1
              obtain ⟨hm1, hm2, g2, hg2⟩ := O2.out.room HR2.out.1 (by omega)
              subst hg2
              have Q1 : Hid (QR w2 (some ⟨g1, 0, none⟩) R1) := O1.out.qr HR1.out.1 (by omega)
              have Q2 : Hid (QR w2 (some ⟨g2, 0, none⟩) R2) := O2.out.qr HR2.out.1 (by omega)
              have CD1 : Hid _ := qdepth_any a lc _ R1 HR1.out.1 (by omega) w2 Q1.out
              rw [HR1.out.2] at CD1
              clear O1 O2
              go_wp2_with fail
              refine Calls.mono CD1.out ?_; rintro e w3 ⟨rfl, b3⟩
              have T3 : Hid _ := T2.out.grow b3
              have B3 : Hid (Below w.heap.size w w3) := bgrow' B2.out b3
              have Q1 : Hid (QR w3 (some ⟨g1, 0, none⟩) R1) := Q1.out.grow b3
              have Q2 : Hid (QR w3 (some ⟨g2, 0, none⟩) R2) := Q2.out.grow b3
              clear b3 CD1 T2 B2
              have CD2 : Hid _ := qdepth_any b mc _ R2 HR2.out.1 (by omega) w3 Q2.out
              rw [HR2.out.2] at CD2
              go_wp2_with fail
              refine Calls.mono CD2.out ?_; rintro e w4 ⟨rfl, b4⟩
              have T4 : Hid _ := T3.out.grow b4
              have B4 : Hid (Below w.heap.size w w4) := bgrow' B3.out b4
              have Q1 : Hid (QR w4 (some ⟨g1, 0, none⟩) R1) := Q1.out.grow b4
              have Q2 : Hid (QR w4 (some ⟨g2, 0, none⟩) R2) := Q2.out.grow b4
              clear b4 CD2 T3 B3
              have hmx : max ((qdep l : Nat) : Int) ((qdep m : Nat) : Int) = ((max (qdep l) (qdep m) : Nat) : Int) := by omega
              obtain ⟨dd, hdd⟩ : ∃ dd, max (qdep l) (qdep m) = dd := ⟨_, rfl⟩
              rw [hdd] at hmx
              have HDD : Hid _ := hdd
              clear hdd
              by_cases h16 : 16 ≤ dd
              · have h16I : (16 : Int) ≤ (dd : Int) := by omega
                clear CO CAN

                go_wp2_with fail
                refine Calls.mono (alive14_any w4 T4.out.1 T4.out.2) ?_; rintro e w9 ⟨rfl, b9⟩
                have B9 : Hid (Below w.heap.size w w9) := bgrow' B4.out b9
                clear b9
                go_wp2_with fail
                go_ret
                exact ⟨rfl, B9.out⟩
              · skip
                have h16I : ¬ (16 : Int) ≤ (dd : Int) := by omega
                have H900 : Hid (s.size + t.size ≤ 900) := by
                  show _ ≤ _
                  have h1 := HSA.out
                  have h2 := HSB.out
                  have h3 : ¬ (900 : Int) < wrap64 ((s.size : Int) + (t.size : Int)) := H9.out
                  unfold wrap64 at h3
                  omega
                have AX1 : ∀ w : World, (Op.stringOp .add s ⟨#[124]⟩).run Tryd.prog w = .ok (.string (s ++ ⟨#[124]⟩)) w := add_any s ⟨#[124]⟩ (by have := HSA.out; show s.size + 1 ≤ _; omega)
                have AX2 : ∀ w : World, (Op.stringOp .add (s ++ ⟨#[124]⟩) t).run Tryd.prog w = .ok (.string ((s ++ ⟨#[124]⟩) ++ t)) w := add_any (s ++ ⟨#[124]⟩) t (by have := H900.out; rw [ByteArray.size_append]; show s.size + 1 + t.size ≤ _; omega)
                have AX3 : ∀ w : World, (Op.stringOp .add s ⟨#[38]⟩).run Tryd.prog w = .ok (.string (s ++ ⟨#[38]⟩)) w := add_any s ⟨#[38]⟩ (by have := HSA.out; show s.size + 1 ≤ _; omega)
                have AX4 : ∀ w : World, (Op.stringOp .add (s ++ ⟨#[38]⟩) t).run Tryd.prog w = .ok (.string ((s ++ ⟨#[38]⟩) ++ t)) w := add_any (s ++ ⟨#[38]⟩) t (by have := H900.out; rw [ByteArray.size_append]; show s.size + 1 + t.size ≤ _; omega)
                have HOR : Hid ((∀ y M, m = y :: M → y.kind ≠ 3) → qpar ((s ++ ⟨#[124]⟩) ++ t) = (⟨3, 0, [], 0⟩ :: (l ++ m), ((s ++ ⟨#[124]⟩) ++ t).size, 0)) := fun h => qpar_or HPS.out HPT.out H900.out (by have := HA.out; have := HB.out; omega) (by have := HDD.out; omega) h
                have HAND : Hid ((∀ y M, l = y :: M → y.kind ≠ 3) → (∀ y M, m = y :: M → y.kind ≠ 3 ∧ y.kind ≠ 2) → qpar ((s ++ ⟨#[38]⟩) ++ t) = (⟨2, 0, [], 0⟩ :: (l ++ m), ((s ++ ⟨#[38]⟩) ++ t).size, 0)) := fun h h' => qpar_and HPS.out HPT.out H900.out (by have := HA.out; have := HB.out; omega) (by have := HDD.out; omega) h h'
                generalize qpar ((s ++ ⟨#[124]⟩) ++ t) = po at *
                generalize qpar ((s ++ ⟨#[38]⟩) ++ t) = pa at *
                generalize (s ++ ⟨#[124]⟩) ++ t = so at *
                generalize s ++ ⟨#[124]⟩ = so1 at *
                generalize (s ++ ⟨#[38]⟩) ++ t = sa at *
                generalize s ++ ⟨#[38]⟩ = sa1 at *
                obtain ⟨yl, ML, hyl⟩ : ∃ y M, l = y :: M := by
                  cases l with
                  | nil => have := HA.out; simp at this; omega
                  | cons y M => exact ⟨y, M, rfl⟩
                obtain ⟨ym, MM, hym⟩ : ∃ y M, m = y :: M := by
                  cases m with
                  | nil => have := HB.out; simp at this; omega
                  | cons y M => exact ⟨y, M, rfl⟩
                have HK : Hid (∀ v, QR v (some ⟨g1, 0, none⟩) R1 → v.cell? ⟨g1, 0, none⟩ = some (.int .i64 yl.kind)) := fun v hv => first_cell hv HR1.out.2 yl ML hyl
                have HK2 : Hid (∀ v, QR v (some ⟨g2, 0, none⟩) R2 → v.cell? ⟨g2, 0, none⟩ = some (.int .i64 ym.kind)) := fun v hv => first_cell hv HR2.out.2 ym MM hym
                have HOR : Hid (ym.kind ≠ 3 → po = (⟨3, 0, [], 0⟩ :: (l ++ m), so.size, 0)) := fun h => HOR.out (fun y M e => by rw [hym] at e; cases e; exact h)
                have HAND : Hid (yl.kind ≠ 3 → ym.kind ≠ 3 → ym.kind ≠ 2 → pa = (⟨2, 0, [], 0⟩ :: (l ++ m), sa.size, 0)) := fun h h' h2 => HAND.out (fun y M e => by rw [hyl] at e; cases e; exact h) (fun y M e => by rw [hym] at e; cases e; exact ⟨h', h2⟩)
                generalize yl.kind = kl at *
                generalize ym.kind = km at *
                clear hyl hym HSA HSB HPS HPT H9 HDD
                go_wp2_with fail
                refine Calls.mono (CO.out w4) ?_; rintro e w5 ⟨⟨oo, d, oc, rfl, R3, r1, r2, r3⟩, b5⟩
                have T5 : Hid _ := T4.out.grow b5
                have B5 : Hid (Below w.heap.size w w5) := bgrow' B4.out b5
                have Q1 : Hid (QR w5 (some ⟨g1, 0, none⟩) R1) := Q1.out.grow b5
                have Q2 : Hid (QR w5 (some ⟨g2, 0, none⟩) R2) := Q2.out.grow b5
                have O3 : Hid (OQ w5 w4.heap.size 40 (.slice oo d oc) R3) := r2
                have HR3 : Hid (R3.length = d ∧ qis R3 = po.1) := ⟨r1, r3⟩
                clear b5 r1 r2 r3 CO T4 B4
                go_wp2_with fail
                refine Calls.mono (CAN.out w5) ?_; rintro e w6 ⟨⟨ao, f, ac, rfl, R4, r1, r2, r3⟩, b6⟩
                have T6 : Hid _ := T5.out.grow b6
                have B6 : Hid (Below w.heap.size w w6) := bgrow' B5.out b6
                have Q1 : Hid (QR w6 (some ⟨g1, 0, none⟩) R1) := Q1.out.grow b6
                have Q2 : Hid (QR w6 (some ⟨g2, 0, none⟩) R2) := Q2.out.grow b6
                have O3 : Hid (OQ w6 w4.heap.size 40 (.slice oo d oc) R3) := O3.out.grow b6
                have O4 : Hid (OQ w6 w5.heap.size 40 (.slice ao f ac) R4) := r2
                have HR4 : Hid (R4.length = f ∧ qis R4 = pa.1) := ⟨r1, r3⟩
                clear b6 r1 r2 r3 CAN T5 B5
                have k1 := HK.out w6 Q1.out
                have k2 := HK2.out w6 Q2.out
                by_cases hkm : km = 3
                · have qm : (km != 3) = false := by rw [hkm]; rfl
                  have qm2 : (km == 3) = true := by rw [hkm]; rfl
                  clear O3 O4 HOR HAND
                  have hkl : (kl == 3) = true ∨ (kl == 3) = false := by cases (kl == 3) <;> simp
                  clear hkm
                  rcases hkl with hkl | hkl
                  · go_wp2_with fail
                    refine Calls.mono (alive14_any w6 T6.out.1 T6.out.2) ?_; rintro e w9 ⟨rfl, b9⟩
                    have B9 : Hid (Below w.heap.size w w9) := bgrow' B6.out b9
                    clear b9
                    go_wp2_with fail
                    go_ret
                    exact ⟨rfl, B9.out⟩

                  · go_wp2_with fail
                    refine Calls.mono (alive14_any w6 T6.out.1 T6.out.2) ?_; rintro e w9 ⟨rfl, b9⟩
                    have B9 : Hid (Below w.heap.size w w9) := bgrow' B6.out b9
                    clear b9
                    go_wp2_with fail
                    go_ret
                    exact ⟨rfl, B9.out⟩
                · skip
                  have qm : (km != 3) = true := by simpa using hkm
                  have HKM : Hid (km ≠ 3) := hkm
                  have qm2 : (km == 3) = false := by simpa using hkm
                  have hpo := HOR.out hkm
                  subst hpo
                  have hd : d = 1 + a + b := by
                    have h1 := HR3.out.1
                    have h2 := congrArg List.length HR3.out.2
                    rw [qis_len, List.length_cons, List.length_append, HA.out, HB.out] at h2
                    omega
                  subst hd
                  obtain ⟨ho1, ho2, g3, hg3⟩ := O3.out.room HR3.out.1 (by omega)
                  subst hg3
                  have Q3 : Hid (QR w6 (some ⟨g3, 0, none⟩) R3) := O3.out.qr HR3.out.1 (by omega)
                  obtain ⟨⟨x1, x2, x3⟩, ⟨y1, y2, y3⟩, k3⟩ := cut_mid Q3.out HR3.out.2
                  rw [HA.out] at x1 x2 x3 y1 y2 y3
                  rw [HB.out] at y2
                  have CX : Hid (Calls Tryd.prog 19 #[.slice (some ⟨g3, 4, none⟩) a (oc - 1), .slice (some ⟨g1, 0, none⟩) a lc] w6 fun e w' => e = .returned (.bool true) ∧ Below w6.heap.size w6 w') := by
                    have h := qsame_any a a (oc - 1) lc _ _ _ R1 w6 x2 HR1.out.1 x1 Q1.out
                    rw [x3, HR1.out.2, sqr_refl] at h
                    exact h
                  have CY : Hid (∀ v, Below w6.heap.size w6 v → Calls Tryd.prog 19 #[.slice (some ⟨g3, (1 + a) * 4, none⟩) b (oc - (1 + a)), .slice (some ⟨g2, 0, none⟩) b mc] v fun e w' => e = .returned (.bool true) ∧ Below v.heap.size v w') := fun v hv => by
                    have h := qsame_any b b (oc - (1 + a)) mc _ _ _ R2 v y2 HR2.out.1 (y1.grow hv) (Q2.out.grow hv)
                    rw [y3, HR2.out.2, sqr_refl] at h
                    exact h
                  have qd : (((1 + a + b : Nat) : Int) != 1 + (a : Int) + (b : Int)) = false := by simp
                  have z1 : ¬ oc = 1 := by omega
                  have z2 : ¬ oc = 1 + a := by omega
                  have z3 : ((1 : Int) + (a : Int)).toNat = 1 + a := by omega
                  have z4 : (0 : Int) ≤ 1 + (a : Int) := by omega
                  have z5 : (1 : Int) ≤ 1 + (a : Int) := by omega
                  have z6 : 1 + a ≤ oc := by omega
                  have z7 : IntKind.i64.wrap (1 + (a : Int)) = 1 + (a : Int) := by rw [IntKind.wrap_i64]; omega
                  clear x1 x2 x3 y1 y2 y3 O3 HOR hkm
                  go_wp2_with fail
                  refine Calls.mono CX.out ?_; rintro e w7 ⟨rfl, b7⟩
                  have T7 : Hid _ := T6.out.grow b7
                  have B7 : Hid (Below w.heap.size w w7) := bgrow' B6.out b7
                  have Q1 : Hid (QR w7 (some ⟨g1, 0, none⟩) R1) := Q1.out.grow b7
                  have Q2 : Hid (QR w7 (some ⟨g2, 0, none⟩) R2) := Q2.out.grow b7
                  have O4 : Hid (OQ w7 w5.heap.size 40 (.slice ao f ac) R4) := O4.out.grow b7
                  have CY := CY.out w7 b7
                  have CY : Hid _ := CY
                  clear b7 CX T6 B6 Q3 k1 k2 k3
                  go_wp2_with fail
                  refine Calls.mono CY.out ?_; rintro e w8 ⟨rfl, b8⟩
                  have T8 : Hid _ := T7.out.grow b8
                  have B8 : Hid (Below w.heap.size w w8) := bgrow' B7.out b8
                  have Q1 : Hid (QR w8 (some ⟨g1, 0, none⟩) R1) := Q1.out.grow b8
                  have Q2 : Hid (QR w8 (some ⟨g2, 0, none⟩) R2) := Q2.out.grow b8
                  have O4 : Hid (OQ w8 w5.heap.size 40 (.slice ao f ac) R4) := O4.out.grow b8
                  clear b8 CY T7 B7
                  have k1 := HK.out w8 Q1.out
                  have k2 := HK2.out w8 Q2.out
                  by_cases hkl : kl = 3
                  · have ql : (kl == 3) = true := by rw [hkl]; rfl
                    clear hkl O4 HAND

                    go_wp2_with fail
                    refine Calls.mono (alive14_any w8 T8.out.1 T8.out.2) ?_; rintro e w9 ⟨rfl, b9⟩
                    have B9 : Hid (Below w.heap.size w w9) := bgrow' B8.out b9
                    clear b9
                    go_wp2_with fail
                    go_ret
                    exact ⟨rfl, B9.out⟩
                  · skip
                    have ql : (kl == 3) = false := by simpa using hkl
                    by_cases hk2 : km = 2
                    · have ql2 : (km == 2) = true := by rw [hk2]; rfl
                      clear hk2 O4 HAND hkl

                      go_wp2_with fail
                      refine Calls.mono (alive14_any w8 T8.out.1 T8.out.2) ?_; rintro e w9 ⟨rfl, b9⟩
                      have B9 : Hid (Below w.heap.size w w9) := bgrow' B8.out b9
                      clear b9
                      go_wp2_with fail
                      go_ret
                      exact ⟨rfl, B9.out⟩
                    · skip
                      have ql2 : (km == 2) = false := by simpa using hk2
                      have hpa := HAND.out hkl HKM.out hk2
                      subst hpa
                      have hf : f = 1 + a + b := by
                        have h1 := HR4.out.1
                        have h2 := congrArg List.length HR4.out.2
                        rw [qis_len, List.length_cons, List.length_append, HA.out, HB.out] at h2
                        omega
                      subst hf
                      obtain ⟨hp1, hp2, g4, hg4⟩ := O4.out.room HR4.out.1 (by omega)
                      subst hg4
                      have Q4 : Hid (QR w8 (some ⟨g4, 0, none⟩) R4) := O4.out.qr HR4.out.1 (by omega)
                      clear HAND hkl hk2 O4
                      go_wp2_with fail
                      refine Calls.mono (alive14_any w8 T8.out.1 T8.out.2) ?_; rintro e w9 ⟨rfl, b9⟩
                      have B9 : Hid (Below w.heap.size w w9) := bgrow' B8.out b9
                      have Q1 : Hid (QR w9 (some ⟨g1, 0, none⟩) R1) := Q1.out.grow b9
                      have Q2 : Hid (QR w9 (some ⟨g2, 0, none⟩) R2) := Q2.out.grow b9
                      have Q4 : Hid (QR w9 (some ⟨g4, 0, none⟩) R4) := Q4.out.grow b9
                      clear b9 T8 B8 k1 k2
                      obtain ⟨⟨x1, x2, x3⟩, ⟨y1, y2, y3⟩, k4⟩ := cut_mid Q4.out HR4.out.2
                      rw [HA.out] at x1 x2 x3 y1 y2 y3
                      rw [HB.out] at y2
                      have CX : Hid (Calls Tryd.prog 19 #[.slice (some ⟨g4, 4, none⟩) a (ac - 1), .slice (some ⟨g1, 0, none⟩) a lc] w9 fun e w' => e = .returned (.bool true) ∧ Below w9.heap.size w9 w') := by
                        have h := qsame_any a a (ac - 1) lc _ _ _ R1 w9 x2 HR1.out.1 x1 Q1.out
                        rw [x3, HR1.out.2, sqr_refl] at h
                        exact h
                      have CY : Hid (∀ v, Below w9.heap.size w9 v → Calls Tryd.prog 19 #[.slice (some ⟨g4, (1 + a) * 4, none⟩) b (ac - (1 + a)), .slice (some ⟨g2, 0, none⟩) b mc] v fun e w' => e = .returned (.bool true) ∧ Below v.heap.size v w') := fun v hv => by
                        have h := qsame_any b b (ac - (1 + a)) mc _ _ _ R2 v y2 HR2.out.1 (y1.grow hv) (Q2.out.grow hv)
                        rw [y3, HR2.out.2, sqr_refl] at h
                        exact h
                      have qe : (((1 + a + b : Nat) : Int) == 1 + (a : Int) + (b : Int)) = true := by simp
                      have v1 : ¬ ac = 1 := by omega
                      have v2 : ¬ ac = 1 + a := by omega
                      have v6 : 1 + a ≤ ac := by omega
                      clear x1 x2 x3 y1 y2 y3
                      go_wp2_with fail
                      refine Calls.mono CX.out ?_; rintro e w10 ⟨rfl, b10⟩
                      have B10 : Hid (Below w.heap.size w w10) := bgrow' B9.out b10
                      have CY := CY.out w10 b10
                      have CY : Hid _ := CY
                      clear b10 CX B9 Q4 Q1 Q2 k4
                      go_wp2_with fail
                      refine Calls.mono CY.out ?_; rintro e w11 ⟨rfl, b11⟩
                      have B11 : Hid (Below w.heap.size w w11) := bgrow' B10.out b11
                      clear b11 CY B10
                      go_wp2_with fail
                      go_ret
                      exact ⟨rfl, B11.out⟩

end Go.Proofs.YtbnnobeahliffaaDoor.queryJoins
