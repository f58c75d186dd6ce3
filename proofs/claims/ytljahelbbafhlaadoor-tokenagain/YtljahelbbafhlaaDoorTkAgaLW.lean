/- The walk of 'beaglelaw13.TokenAgain': it answers true; nothing that was there is turned. For the statement's proof. -/
import Derived.OpenShut
import Derived.ProofKit
import Derived.Test.YtljahelbbafhlaaDoorTkLw
import Derived.Test.YtljahelbbafhlaaDoorTkC
import Derived.Test.YtljahelbbafhlaaDoorLfA
namespace Go.Proofs.YtljahelbbafhlaaDoor.tokenAgain
open Go.ChangeShapes Go.WideShapes Go.ChangeAt Go.RowKit Cls
set_option linter.unusedVariables false

theorem bgrow {a b c : World} (h : Below a.heap.size a b) (k : Below b.heap.size b c) : Below a.heap.size a c := h.trans (k.mono h.size)

theorem lex_big (s : ByteArray) (h : 1000 < s.size) (w : World) : Calls Tryd.prog 10 #[.string s] w fun e w' => e = .returned (.tuple #[.slice none 0 0, .int .i64 1000, .int .i64 135]) ∧ Below w.heap.size w w' := by
  have hbI : (1000 : Int) < (s.size : Int) := by omega
  go_enter Tryd.func10, Tryd.ntmps10
  go_wp2_with fail
  go_step3
  go_wp2_with fail
  try simp only [Exit.noGoto]
  refine bodyPost_ret (results_tmp3 rfl _ _ _) rfl ?_
  exact ⟨rfl, Below.refl _ _⟩

/-- The text that is printed, one token more. -/
theorem more_again {Y : List Tk} {i : Nat} (h : i < Y.length) {T : List Nat} (hT : prt Y[i] = some T) (hn : Y.length ≤ 1001) : (∀ w : World, (Op.stringOp .add (tbs T) (⟨#[32]⟩ : ByteArray)).run Tryd.prog w = .ok (.string (tbs (T ++ [32]))) w) ∧ ∀ w : World, (Op.stringOp .add (tbs (agt (Y.take i))) (tbs (T ++ [32]))).run Tryd.prog w = .ok (.string (tbs (agt (Y.take (i + 1))))) w := by
  have h1 := prt_le hT
  have h2 := agt_le (Y.take i)
  have h3 : (Y.take i).length ≤ 1001 := by rw [List.length_take]; omega
  have h4 : (agt (Y.take i)).length ≤ 160001 * 1001 := Nat.le_trans h2 (Nat.mul_le_mul_left _ h3)
  refine ⟨fun w => ?_, fun w => ?_⟩
  · rw [run_string_add_sum (P := Tryd.prog) (w := w) _ _ (by rw [tbs_size]; show T.length + 1 ≤ _; omega), tbs_app]
    rfl
  · rw [run_string_add_sum (P := Tryd.prog) (w := w) _ _ (by rw [tbs_size, tbs_size, List.length_append, List.length_singleton]; omega), ← tbs_app, agt_take Y i h, hT]
    rfl

/-- What is told of the second reading. -/
theorem told_again {Y : List Tk} (h : ∀ t ∈ Y, ∃ T, prt t = some T) (hn : (agt Y).length ≤ 1000) (L : List Tv) (hL : L.map Tv.i = Y.map Tk.i) (n : Nat) (hl : L.length = n) (hn2 : n ≤ 1001) (v : World) :
    Calls Tryd.prog 10 #[.string (tbs (agt Y))] v fun e w' => (∃ mo mc M p, e = .returned (.tuple #[.slice mo n mc, .int .i64 p, .int .i64 0]) ∧ TR w' mo M ∧ M.length = n ∧ ∀ i, (h : i < L.length) → (h' : i < M.length) → Alp L[i] M[i]) ∧ Below v.heap.size v w' := by
  obtain ⟨g1, g2, g3⟩ := lex_again h hn
  refine (lex_any (tbs (agt Y)) (by rw [tbs_size]; omega) v).mono fun e w' hh => ?_
  obtain ⟨⟨v1, M, rfl, ho, hm⟩, hb⟩ := hh
  have hY : Y.length = n := by have := congrArg List.length hL; simp only [List.length_map] at this; omega
  have hM : M.length = n := by have := congrArg List.length hm; simp only [List.length_map] at this; omega
  obtain ⟨mo, mc, rfl, ht⟩ := ho.tr (by omega)
  rw [hM, g1]
  refine ⟨⟨mo, mc, M, _, rfl, ht, hM, fun i hi hi' => ?_⟩, hb⟩
  have hiY : i < Y.length := by omega
  have hiZ : i < (lls (tbs (agt Y))).length := by omega
  obtain ⟨t1, t2, t3⟩ := g3 i hiZ hiY
  have e1 : L[i].i = Tk.i Y[i] := by
    have := congrArg (fun l => l[i]?) hL
    simpa [hi, hiY] using this
  have e2 : M[i].i = Tk.i (lls (tbs (agt Y)))[i] := by
    have := congrArg (fun l => l[i]?) hm
    simpa [hi', hiZ] using this
  generalize (lls (tbs (agt Y)))[i] = u at *
  generalize Y[i] = t at *
  have hle := sml_len t3
  refine ⟨?_, ?_, ?_, fun j hj => ?_⟩
  · rw [e1, e2]; show ((u.kind : Nat) : Int) = t.kind; rw [t1]
  · rw [e1, e2]; show ((u.n : Nat) : Int) = t.n; rw [t2]
  · rw [e1, e2]; exact hle
  · rw [e1] at hj ⊢
    rw [e2]
    have := sml_at t3 j (by rw [hle]; exact hj)
    rw [sm_iff] at this ⊢
    exact fun b hb => (this b hb).symm

set_option maxRecDepth 100000 in
set_option maxHeartbeats 4000000 in
theorem walk (s : ByteArray) (w : World) (hs : s.size ≤ maxLen) (hT : TabB w) (hX : TabX w) :
    Calls Tryd.prog 7 #[.string s] w fun e w' => e = .returned (.bool true) ∧ Below w.heap.size w w' := by
  have HT : Hid (Tx w w) := Tx.refl hT hX
  have CA : Hid _ := fun (v : World) (hv : TabB v) (hx : TabX v) => alive_any v hv hx
  clear hT hX
  by_cases hbig : s.size ≤ 1000000
  · have C1 : Hid _ := lex_any s hbig w
    by_cases hc : lcd s = 0
    · obtain ⟨h1000, hlex, hprt⟩ := lex_told hc
      have hnI : ¬ (1000 : Int) < (s.size : Int) := by omega
      have HLL : Hid (∀ L : List Tv, L.map Tv.i = (lls s).map Tk.i → L.length ≤ s.size + 1) := fun L h => lls_len h
      have HP : Hid _ := hprt
      rw [hc] at C1
      generalize lpl s = p at *
      generalize lls s = Y at *
      clear hlex hc hprt
      go_enter Tryd.func7, Tryd.ntmps7
      go_wp2_with fail
      refine Calls.mono C1.out ?_; rintro e w1 ⟨⟨v1, L, rfl, ho, hl⟩, b1⟩
      have hlen := HLL.out L hl
      obtain ⟨so, sc, rfl, ht⟩ := ho.tr (by omega)
      obtain ⟨n, hn2⟩ : ∃ n, L.length = n := ⟨_, rfl⟩
      have T1 : Hid (Tx w w1) := Tx.grow HT.out b1
      have TR1 : Hid (TR w1 so L) := ht
      have HL1 : Hid (L.map Tv.i = Y.map Tk.i) := hl
      have HN : Hid (L.length = n) := hn2
      have HNY : Hid (Y.length = n) := by show _ = _; have := congrArg List.length hl; simp only [List.length_map] at this; omega
      have hn3 : n ≤ 1001 := by omega
      rw [hn2]
      clear b1 HT C1 ho hl ht hlen hn2 HLL
      go_wp2_with fail
      go_loopw [6, 31] (fun vt vi wr => Below w1.heap.size w1 wr ∧ ∃ i : Nat, i ≤ n ∧ vi = .int .i64 (i : Int) ∧ vt = .string (tbs (agt (Y.take i)))) (fun _ vi _ => n - (intOf vi).toNat)
      case atStart => exact ⟨Below.refl _ _, 0, Nat.zero_le _, rfl, rfl⟩
      case round =>
        obtain ⟨hbel, i, hi, rfl, rfl⟩ := hrel
        have HB : Hid (Below w1.heap.size w1 wr) := hbel
        clear hbel
        by_cases hin : i < n
        · have hiI : (i : Int) < (n : Int) := by omega
          have h1 : i < L.length := by rw [HN.out]; exact hin
          have h2 : i < Y.length := by rw [HNY.out]; exact hin
          obtain ⟨b, o, rfl, hlt, hC⟩ := (TR1.out.grow HB.out).lies (by omega)
          obtain ⟨c0, c1, c2, c3⟩ := hC i h1
          have hok := TR1.out.ok L[i] (List.getElem_mem h1)
          obtain ⟨T, hT⟩ := HP.out Y[i] (List.getElem_mem h2)
          obtain ⟨AD1, AD2⟩ := more_again h2 hT (by rw [HNY.out]; omega)
          have hx : L[i].i = Tk.i Y[i] := by
            have := congrArg (fun l => l[i]?) HL1.out
            simpa [h1, h2] using this
          have hpr : prI L[i].i = some T := by rw [hx, prI_tk, hT]
          clear hx hT hC
          generalize L[i] = x at *
          have CP : Hid (∀ v : World, Below w1.heap.size w1 v → Calls Tryd.prog 16 #[.agg #[.int .i64 x.i.kind, .int .i64 x.i.at', .int .i64 x.i.n, .slice x.ao x.i.p.length x.cap]] v fun e w' => e = .returned (.tuple #[.string (tbs T), .bool true]) ∧ Below v.heap.size v w') := fun v hv => by
            have h := print_any x v (hok.grow hv) (T1.out.tab.grow hv) (T1.out.tx.grow hv)
            rw [hpr] at h
            exact h
          obtain ⟨xk, hxk⟩ : ∃ xk, x.i.kind = xk := ⟨_, rfl⟩
          obtain ⟨xa, hxa⟩ : ∃ xa, x.i.at' = xa := ⟨_, rfl⟩
          obtain ⟨xn, hxnn⟩ : ∃ xn, x.i.n = xn := ⟨_, rfl⟩
          obtain ⟨xl, hxl⟩ : ∃ xl, x.i.p.length = xl := ⟨_, rfl⟩
          obtain ⟨xo, hxoo⟩ : ∃ xo, x.ao = xo := ⟨_, rfl⟩
          obtain ⟨xc, hxc⟩ : ∃ xc, x.cap = xc := ⟨_, rfl⟩
          rw [hxk, hxa, hxnn, hxl, hxoo, hxc] at CP
          rw [hxk] at c0
          rw [hxa] at c1
          rw [hxnn] at c2
          rw [hxl, hxoo, hxc] at c3
          obtain ⟨w4, e4⟩ : ∃ w4, w4 = wr.alloc (.cells #[.int .i64 xk, .int .i64 xa, .int .i64 xn, .slice xo xl xc] 40) := ⟨_, rfl⟩
          have b4 : Below wr.heap.size wr w4 := by rw [e4]; exact al_below _ _
          have HB4 : Hid (Below w1.heap.size w1 w4) := HB.out.trans (b4.mono HB.out.size)
          obtain ⟨a0, a1, a2, a3⟩ : K4 w4 wr.heap.size (.int .i64 xk) (.int .i64 xa) (.int .i64 xn) (.slice xo xl xc) := by rw [e4]; exact k4_new _ _ _ _ _ _
          have E4 : Hid _ := e4
          generalize tbs (agt (Y.take i)) = ta at *
          obtain ⟨td, htd⟩ : ∃ td, tbs (agt (Y.take (i + 1))) = td := ⟨_, rfl⟩
          have HTD : Hid (td = tbs (agt (Y.take (i + 1)))) := htd.symm
          rw [htd] at AD2
          generalize tbs (T ++ [32]) = tc at *
          generalize tbs T = tb at *
          clear e4 b4 HB htd hok hpr hxk hxa hxnn hxl hxoo hxc h1 h2
          go_wp2_with (first | rw [← E4.out])
          refine Calls.mono (CP.out w4 HB4.out) ?_; rintro e w5 ⟨rfl, b5⟩
          have HB5 : Hid (Below w1.heap.size w1 w5) := HB4.out.trans (b5.mono HB4.out.size)
          clear b5 HB4 CP E4 a0 a1 a2 a3 c0 c1 c2 c3
          go_wp2_with fail
          go_roundw
          case rel => exact ⟨HB5.out, i + 1, by omega, by go_num, by rw [HTD.out]⟩
          case measure => simp [intOf]; omega
        · obtain rfl : i = n := by omega
          have HTK : Hid (Y.take i = Y) := by show _ = _; rw [List.take_of_length_le]; rw [HNY.out]; exact Nat.le_refl _
          rw [HTK.out]
          have hsz : (tbs (agt Y)).size = (agt Y).length := tbs_size _
          by_cases h9 : (agt Y).length ≤ 1000
          · have C3 : Hid _ := fun (v : World) => told_again HP.out h9 L HL1.out i HN.out hn3 v
            generalize tbs (agt Y) = ty at *
            have h9I : ¬ (1000 : Int) < (ty.size : Int) := by omega
            go_wp2_with fail
            refine Calls.mono (C3.out wr) ?_; rintro e w2 ⟨⟨mo, mc, M, q, rfl, hm, hml, hall⟩, b2⟩
            have HB2 : Hid (Below w1.heap.size w1 w2) := HB.out.trans (b2.mono HB.out.size)
            have TM2 : Hid (TR w2 mo M) := hm
            have HML : Hid (M.length = i) := hml
            have HAL : Hid _ := hall
            clear b2 HB C3 hm hml hall
            go_wp2_with fail
            go_loopw [68] (fun vi wr => Below w2.heap.size w2 wr ∧ ∃ j : Nat, j ≤ i ∧ vi = .int .i64 (j : Int)) (fun vi _ => i - (intOf vi).toNat)
            case atStart => exact ⟨Below.refl _ _, 0, Nat.zero_le _, rfl⟩
            case round =>
              obtain ⟨hbel, j, hj, rfl⟩ := hrel
              have HBj : Hid _ := hbel
              clear hbel
              by_cases hji : j < i
              · have hjI : (j : Int) < (i : Int) := by omega
                have h1 : j < L.length := by rw [HN.out]; exact hji
                have h2 : j < M.length := by rw [HML.out]; exact hji
                obtain ⟨b, o, rfl, hlt, hC⟩ := TR1.out.lies (by omega)
                obtain ⟨b', o', rfl, hlt', hD⟩ := TM2.out.lies (by omega)
                have hC := hC j h1
                have hD := hD j h2
                have hx := TR1.out.ok L[j] (List.getElem_mem h1)
                have hy := TM2.out.ok M[j] (List.getElem_mem h2)
                have hq := HAL.out j h1 h2
                generalize L[j] = x at *
                generalize M[j] = y at *
                obtain ⟨xk, hxk⟩ : ∃ xk, x.i.kind = xk := ⟨_, rfl⟩
                obtain ⟨xn, hxnn⟩ : ∃ xn, x.i.n = xn := ⟨_, rfl⟩
                obtain ⟨l, hxl⟩ : ∃ l, x.i.p.length = l := ⟨_, rfl⟩
                obtain ⟨xo, hxoo⟩ : ∃ xo, x.ao = xo := ⟨_, rfl⟩
                obtain ⟨xc, hxc⟩ : ∃ xc, x.cap = xc := ⟨_, rfl⟩
                obtain ⟨yo, hyoo⟩ : ∃ yo, y.ao = yo := ⟨_, rfl⟩
                obtain ⟨yc, hyc⟩ : ∃ yc, y.cap = yc := ⟨_, rfl⟩
                have HCC : Hid (∀ v : World, Below w2.heap.size w2 v → v.cell? ⟨b, o + j * 4, none⟩ = some (.int .i64 xk) ∧ v.cell? ⟨b, o + j * 4 + 2, none⟩ = some (.int .i64 xn) ∧ v.cell? ⟨b, o + j * 4 + 3, none⟩ = some (.slice xo l xc) ∧ v.cell? ⟨b', o' + j * 4, none⟩ = some (.int .i64 xk) ∧ v.cell? ⟨b', o' + j * 4 + 2, none⟩ = some (.int .i64 xn) ∧ v.cell? ⟨b', o' + j * 4 + 3, none⟩ = some (.slice yo l yc)) := fun v hv => by
                  obtain ⟨c0, c1, c2, c3⟩ := hC.grow (bgrow HB2.out hv)
                  obtain ⟨d0, d1, d2, d3⟩ := hD.grow hv
                  rw [hq.kind] at d0
                  rw [hq.n] at d2
                  rw [hq.len, hyoo, hyc] at d3
                  rw [hxoo, hxc] at c3
                  rw [hxl] at c3 d3
                  rw [hxk] at c0 d0
                  rw [hxnn] at c2 d2
                  exact ⟨c0, c2, c3, d0, d2, d3⟩
                have CC : Hid (∀ v : World, Below w2.heap.size w2 v → Calls Tryd.prog 18 #[.slice yo l yc, .slice xo l xc] v fun e w' => e = .returned (.bool true) ∧ Below v.heap.size v w') := fun v hv => by
                  have e1 : Lf v xo l (at' x.i.p) := by
                    have := Tv.ok.grow hx (bgrow HB2.out hv)
                    unfold Tv.ok at this
                    rw [hxl, hxoo] at this
                    exact this
                  have e2 : Lf v yo l (at' y.i.p) := by
                    have := Tv.ok.grow hy hv
                    unfold Tv.ok at this
                    rw [hq.len, hxl, hyoo] at this
                    exact this
                  have h := classes_any (at' y.i.p) (at' x.i.p) l l yc xc yo xo v e2 e1
                  rw [eqr_comm, eqr_yes (fun t ht => hq.cls t (by omega))] at h
                  exact h
                clear hC hD hx hy hq hxk hxnn hxl hxoo hxc hyoo hyc h1 h2
                clear x y
                obtain ⟨a0, a1, a2, a3, a4, a5⟩ := HCC.out _ HBj.out
                go_wp2_with fail
                go_region_held3 (fun w' => w'.cell? ⟨b, o + j * 4, none⟩ = some (.int .i64 xk) ∧ w'.cell? ⟨b, o + j * 4 + 2, none⟩ = some (.int .i64 xn) ∧ w'.cell? ⟨b, o + j * 4 + 3, none⟩ = some (.slice xo l xc) ∧ w'.cell? ⟨b', o' + j * 4, none⟩ = some (.int .i64 xk) ∧ w'.cell? ⟨b', o' + j * 4 + 2, none⟩ = some (.int .i64 xn) ∧ w'.cell? ⟨b', o' + j * 4 + 3, none⟩ = some (.slice yo l yc)) (go_keep)
                  (first | (go_at_call 18; (with_reducible refine Calls.mono (CC.out _ (by first | exact HBj.out | exact HBj.out.drew | exact below_drewN HBj.out _)) ?_); rintro e vk ⟨rfl, bb⟩; have HBk : Hid (Below w2.heap.size w2 vk) := bgrow HBj.out (by first | exact bb | exact undrew bb); clear bb HBj a0 a1 a2 a3 a4 a5; have HBj : Hid (Below w2.heap.size w2 vk) := HBk.out; clear HBk; obtain ⟨a0, a1, a2, a3, a4, a5⟩ := HCC.out _ HBj.out))
                all_goals
                  go_wp2_with fail
                  go_roundw
                  case rel => exact ⟨by first | exact HBj.out | exact HBj.out.drew, j + 1, by omega, by go_num⟩
                  case measure => simp [intOf]; omega
              · obtain rfl : j = i := by omega
                go_wp2_with fail
                have T5 : Hid (Tx w _) := (T1.out.grow HB2.out).grow HBj.out
                refine Calls.mono (CA.out _ T5.out.tab T5.out.tx) ?_; rintro e w5 ⟨rfl, b5⟩
                have T6 : Hid (Tx w w5) := Tx.grow T5.out b5
                clear b5 CA
                go_wp2_with fail
                go_ret
                exact ⟨rfl, T6.out.bel⟩
          · generalize tbs (agt Y) = ty at *
            have h9I : (1000 : Int) < (ty.size : Int) := by omega
            have T5 : Hid (Tx w wr) := T1.out.grow HB.out
            go_wp2_with fail
            refine Calls.mono (CA.out wr T5.out.tab T5.out.tx) ?_; rintro e w5 ⟨rfl, b5⟩
            have T6 : Hid (Tx w w5) := Tx.grow T5.out b5
            clear b5 CA
            go_wp2_with fail
            go_ret
            exact ⟨rfl, T6.out.bel⟩
    · have hcI : (((lcd s : Nat) : Int) != 0) = true := by
        have h2 : ¬ ((lcd s : Nat) : Int) = 0 := by omega
        simpa using h2
      generalize lpl s = p at *
      generalize lcd s = c at *
      generalize lls s = Y at *
      clear hc
      go_enter Tryd.func7, Tryd.ntmps7
      go_wp2_with fail
      refine Calls.mono C1.out ?_; rintro e w1 ⟨⟨v1, L, rfl, _, _⟩, b1⟩
      have T1 : Hid (Tx w w1) := Tx.grow HT.out b1
      clear b1 HT C1
      go_wp2_with fail
      refine Calls.mono (CA.out w1 T1.out.tab T1.out.tx) ?_; rintro e w3 ⟨rfl, b3⟩
      have T3 : Hid (Tx w w3) := Tx.grow T1.out b3
      clear b3 T1 CA
      go_wp2_with fail
      go_ret
      exact ⟨rfl, T3.out.bel⟩
  · have C1 : Hid _ := lex_big s (by omega) w
    go_enter Tryd.func7, Tryd.ntmps7
    go_wp2_with fail
    refine Calls.mono C1.out ?_; rintro e w1 ⟨rfl, b1⟩
    have T1 : Hid (Tx w w1) := Tx.grow HT.out b1
    clear b1 HT C1
    go_wp2_with fail
    refine Calls.mono (CA.out w1 T1.out.tab T1.out.tx) ?_; rintro e w3 ⟨rfl, b3⟩
    have T3 : Hid (Tx w w3) := Tx.grow T1.out b3
    clear b3 T1 CA
    go_wp2_with fail
    go_ret
    exact ⟨rfl, T3.out.bel⟩

end Go.Proofs.YtljahelbbafhlaaDoor.tokenAgain
