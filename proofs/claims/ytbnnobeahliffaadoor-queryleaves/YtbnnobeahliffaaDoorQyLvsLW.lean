/- The walk of 'beaglelaw14.QueryLeaves': it answers true; nothing that was there is turned. For the statement's proof. -/
import Derived.OpenShut
import Derived.ProofKit
import Derived.Test.YtbnnobeahliffaaDoorQyFew
import Derived.Test.YtbnnobeahliffaaDoorQyB
import Derived.Test.YtbnnobeahliffaaDoorQyA
namespace Go.Proofs.YtbnnobeahliffaaDoor.queryLeaves
open Go.ChangeShapes Go.WideShapes Go.ChangeAt Go.RowKit Cls
set_option linter.unusedVariables false

set_option maxRecDepth 100000 in
set_option maxHeartbeats 4000000 in
theorem walk (so : Option Addr) (n cap : Nat) (L : List Qv) (tt : Option Addr) (m dap : Nat) (M : List Qv) (w : World) (hq : Nq w so n cap L) (hq2 : Nq w tt m dap M) (hT : TabB w) (hX : TabX w) :
    Calls Tryd.prog 4 #[.slice so n cap, .slice tt m dap] w fun e w' => e = .returned (.bool true) ∧ Below w.heap.size w w' := by
  have HQ : Hid _ := hq
  have HQ2 : Hid _ := hq2
  have HT : Hid (T2 w) := ⟨hT, hX⟩
  have CF : Hid _ := few14_any n cap so L hq.len w hq.row
  have CG : Hid (∀ v, Below w.heap.size w v → Calls Tryd.prog 8 #[.slice tt m dap] v fun e w' => e = .returned (.bool (fewq (qis M))) ∧ Below v.heap.size v w') := fun v hv => few14_any m dap tt M hq2.len v (hq2.row.grow hv)
  clear hq hq2 hT hX
  cases hf : fewq (qis L) with
  | false =>
    rw [hf] at CF
    clear CG
    go_enter Tryd.func4, Tryd.ntmps4
    go_wp2_with fail
    refine Calls.mono CF.out ?_; rintro e w1 ⟨rfl, b1⟩
    have T1 : Hid _ := HT.out.grow b1
    have B1 : Hid (Below w.heap.size w w1) := b1
    clear b1 CF
    go_wp2_with fail
    refine Calls.mono (alive14_any w1 T1.out.1 T1.out.2) ?_; rintro e w2 ⟨rfl, b2⟩
    have B2 : Hid (Below w.heap.size w w2) := bgrow' B1.out b2
    clear b2 B1 T1
    go_wp2_with fail
    go_ret
    exact ⟨rfl, B2.out⟩
  | true =>
    rw [hf] at CF
    have hn200 : n ≤ 200 := by
      unfold fewq at hf
      have := (of_decide_eq_true hf).1
      rw [qis_len, HQ.out.len] at this
      exact this
    clear hf
    cases hf : fewq (qis M) with
    | false =>
      rw [hf] at CG
      go_enter Tryd.func4, Tryd.ntmps4
      go_wp2_with fail
      refine Calls.mono CF.out ?_; rintro e w1 ⟨rfl, b1⟩
      have T1 : Hid _ := HT.out.grow b1
      have B1 : Hid (Below w.heap.size w w1) := b1
      clear b1 CF
      go_wp2_with fail
      refine Calls.mono (CG.out w1 B1.out) ?_; rintro e w2 ⟨rfl, b2⟩
      have T2 : Hid _ := T1.out.grow b2
      have B2 : Hid (Below w.heap.size w w2) := bgrow' B1.out b2
      clear b2 CG B1 T1
      go_wp2_with fail
      refine Calls.mono (alive14_any w2 T2.out.1 T2.out.2) ?_; rintro e w3 ⟨rfl, b3⟩
      have B3 : Hid (Below w.heap.size w w3) := bgrow' B2.out b3
      clear b3 B2 T2
      go_wp2_with fail
      go_ret
      exact ⟨rfl, B3.out⟩
    | true =>
      rw [hf] at CG
      have hm200 : m ≤ 200 := by
        unfold fewq at hf
        have := (of_decide_eq_true hf).1
        rw [qis_len, HQ2.out.len] at this
        exact this
      clear hf
      go_enter Tryd.func4, Tryd.ntmps4
      go_wp2_with fail
      refine Calls.mono CF.out ?_; rintro e w1 ⟨rfl, b1⟩
      have T1 : Hid _ := HT.out.grow b1
      have B1 : Hid (Below w.heap.size w w1) := b1
      clear b1 CF
      go_wp2_with fail
      refine Calls.mono (CG.out w1 B1.out) ?_; rintro e w2 ⟨rfl, b2⟩
      have T2 : Hid _ := T1.out.grow b2
      have B2 : Hid (Below w.heap.size w w2) := bgrow' B1.out b2
      clear b2 CG B1 T1
      have Q2 : Hid _ := HQ.out.row.grow B2.out
      go_wp2_with fail
      refine Calls.mono (qleaves_any n cap so L HQ.out.len (by omega) w2 Q2.out) ?_; rintro e w3 ⟨⟨v1, rfl, hv1⟩, b3⟩
      have T3 : Hid _ := T2.out.grow b3
      have B3 : Hid (Below w.heap.size w w3) := bgrow' B2.out b3
      have Q3 : Hid _ := Q2.out.grow b3
      have V3 : Hid (∃ M : List Wv, OW w3 w2.heap.size 31 v1 M ∧ M.map Wv.i = (lvs (qis L)).map Qn.wi) := hv1.ex
      clear b3 B2 T2 Q2 hv1
      go_wp2_with fail
      refine Calls.mono (leaves14_any n cap so L HQ.out.len (by omega) w3 Q3.out) ?_; rintro e w4 ⟨⟨v2, rfl, hv2⟩, b4⟩
      have T4 : Hid _ := T3.out.grow b4
      have B4 : Hid (Below w.heap.size w w4) := bgrow' B3.out b4
      have Q4 : Hid _ := Q3.out.grow b4
      obtain ⟨j, hj⟩ : ∃ j, (lvs (qis L)).length = j := ⟨_, rfl⟩
      have hj9 : j ≤ 200 := by
        have := lvs_len (qis L)
        rw [qis_len, HQ.out.len] at this
        omega
      obtain ⟨N1, o1, e1⟩ := V3.out
      obtain ⟨N2, o2, e2⟩ := hv2.ex
      have hN1 : N1.length = j := by have := congrArg List.length e1; rw [List.length_map, List.length_map, hj] at this; exact this
      have hN2 : N2.length = j := by have := congrArg List.length e2; rw [List.length_map, List.length_map, hj] at this; exact this
      obtain ⟨lo, lc, rfl, r1⟩ := (o1.grow b4).tr (by omega)
      obtain ⟨ko, kc, rfl, r2⟩ := o2.tr (by omega)
      rw [hN1, hN2]
      have W1 : Hid (WR w4 lo N1) := r1
      have W2 : Hid (WR w4 ko N2) := r2
      have HL1 : Hid (N1.length = j) := hN1
      have HL2 : Hid (N2.length = j) := hN2
      have HEQ : Hid (∀ i, (h1 : i < N1.length) → (h2 : i < N2.length) → N1[i].i = N2[i].i) := fun i h1 h2 => by
        have e3 : N1.map Wv.i = N2.map Wv.i := e1.trans e2.symm
        have := congrArg (fun l => l[i]?) e3
        simpa [h1, h2] using this
      clear b4 B3 T3 Q3 hv2 V3 o1 o2 e1 e2 r1 r2 hN1 hN2 hj
      go_wp2_with fail
      go_loopw [28] (fun vi wr => Below w4.heap.size w4 wr ∧ ∃ i : Nat, i ≤ j ∧ vi = .int .i64 (i : Int)) (fun vi _ => j - (intOf vi).toNat)
      case atStart => exact ⟨Below.refl _ _, 0, Nat.zero_le _, rfl⟩
      case round =>
        obtain ⟨hbel, i, hi, rfl⟩ := hrel
        have HB : Hid _ := hbel
        clear hbel
        by_cases hin : i < j
        · have hiI : (i : Int) < (j : Int) := by omega
          have h1 : i < N1.length := by rw [HL1.out]; exact hin
          have h2 : i < N2.length := by rw [HL2.out]; exact hin
          obtain ⟨b, o, rfl, hb, hC⟩ := (W1.out.grow HB.out).lies (by omega)
          obtain ⟨b', o', rfl, hb', hC'⟩ := (W2.out.grow HB.out).lies (by omega)
          obtain ⟨c0, c1⟩ := hC i h1
          obtain ⟨d0, d1⟩ := hC' i h2
          have hk1 : Lf wr N1[i].ao N1[i].i.p.length (at' N1[i].i.p) := (W1.out.grow HB.out).ok N1[i] (List.getElem_mem h1)
          have hk2 : Lf wr N2[i].ao N2[i].i.p.length (at' N2[i].i.p) := (W2.out.grow HB.out).ok N2[i] (List.getElem_mem h2)
          have he := HEQ.out i h1 h2
          clear hC hC'
          generalize N1[i] = x at *
          generalize N2[i] = y at *
          have CS : Hid (Calls Tryd.prog 16 #[.agg #[.slice x.ao x.i.p.length x.cap, .int .i64 x.i.k], .agg #[.slice y.ao y.i.p.length y.cap, .int .i64 y.i.k]] wr.drew fun e w' => e = .returned (.bool true) ∧ Below wr.heap.size wr w') := by
            refine Calls.mono (refSame_any (at' x.i.p) (at' y.i.p) x.i.p.length y.i.p.length x.cap y.cap x.ao y.ao x.i.k y.i.k wr.drew ⟨hk1.small, hk1.lies⟩ ⟨hk2.small, hk2.lies⟩) ?_
            rintro e w' ⟨he2, hb⟩
            rw [he, sml_refl] at he2
            exact ⟨he2, undrew hb⟩
          have hl1 := hk1.small
          have hl2 := hk2.small
          clear hk1 hk2 he
          generalize x.i.p.length = xl at *
          generalize y.i.p.length = yl at *
          go_wp2_with fail
          go_region_law (refine step_call (by rfl) 16 _ _ (by rfl) #[.agg #[.slice x.ao xl x.cap, .int .i64 x.i.k], .agg #[.slice y.ao yl y.cap, .int .i64 y.i.k]] (by simp [Act.eval]) (fun w => run_enter Tryd.func16 (by kernel_rfl) (by kernel_rfl) _ w) _ _ (CS.out) ?_; intro w5 b5; have HB5 : Hid (Below w4.heap.size w4 w5) := bgrow' HB.out b5; clear b5)
          all_goals
            go_wp2_with fail
            go_roundw
            case rel => exact ⟨HB5.out, i + 1, by omega, by go_num⟩
            case measure => simp [intOf]; omega
        · obtain rfl : i = j := by omega
          have B5 : Hid (Below w.heap.size w wr) := bgrow' B4.out HB.out
          have Q5 : Hid _ := Q4.out.grow HB.out
          have T5 : Hid _ := T4.out.grow HB.out
          have M5 : Hid _ := HQ2.out.row.grow B5.out
          clear T4 Q4 B4 W1 W2 HEQ HL1 HL2
          go_wp2_with fail
          refine Calls.mono (alive14_any wr T5.out.1 T5.out.2) ?_; rintro e w6 ⟨rfl, b6⟩
          have B6 : Hid (Below w.heap.size w w6) := bgrow' B5.out b6
          have Q6 : Hid _ := Q5.out.grow b6
          have M6 : Hid _ := M5.out.grow b6
          clear b6 B5 T5 Q5 M5
          go_wp2_with fail
          refine Calls.mono (qlongest_any n cap so L HQ.out.len w6 Q6.out) ?_; rintro e w7 ⟨rfl, b7⟩
          have B7 : Hid (Below w.heap.size w w7) := bgrow' B6.out b7
          have Q7 : Hid _ := Q6.out.grow b7
          have M7 : Hid _ := M6.out.grow b7
          clear b7 B6 Q6 M6
          go_wp2_with fail
          refine Calls.mono (longest14_any n cap so L HQ.out.len w7 Q7.out) ?_; rintro e w8 ⟨rfl, b8⟩
          have B8 : Hid (Below w.heap.size w w8) := bgrow' B7.out b8
          have Q8 : Hid _ := Q7.out.grow b8
          have M8 : Hid _ := M7.out.grow b8
          clear b8 B7 Q7 M7
          go_wp2_with fail
          refine Calls.mono (qsame_any n m cap dap so tt L M w8 HQ.out.len HQ2.out.len Q8.out M8.out) ?_; rintro e w9 ⟨rfl, b9⟩
          have B9 : Hid (Below w.heap.size w w9) := bgrow' B8.out b9
          have Q9 : Hid _ := Q8.out.grow b9
          have M9 : Hid _ := M8.out.grow b9
          clear b9 B8 Q8 M8
          go_wp2_with fail
          refine Calls.mono (same14_any n m so tt cap dap L M w9 HQ.out.len HQ2.out.len Q9.out M9.out) ?_; rintro e w10 ⟨rfl, b10⟩
          have B10 : Hid (Below w.heap.size w w10) := bgrow' B9.out b10
          have Q10 : Hid _ := Q9.out.grow b10
          clear b10 B9 Q9 M9
          have qbb : (sqr (qis L) (qis M) == sqr (qis L) (qis M)) = true := by simp
          generalize sqr (qis L) (qis M) = sq at *
          have CSS : Hid (Calls Tryd.prog 19 #[.slice so n cap, .slice so n cap] w10 fun e w' => e = .returned (.bool true) ∧ Below w10.heap.size w10 w') := by
            have h := qsame_any n n cap cap so so L L w10 HQ.out.len HQ.out.len Q10.out Q10.out
            rw [sqr_refl] at h
            exact h
          go_wp2_with fail
          refine Calls.mono CSS.out ?_; rintro e w11 ⟨rfl, b11⟩
          have B11 : Hid (Below w.heap.size w w11) := bgrow' B10.out b11
          clear b11 B10 Q10 CSS
          go_wp2_with fail
          go_ret
          exact ⟨rfl, B11.out⟩

end Go.Proofs.YtbnnobeahliffaaDoor.queryLeaves
