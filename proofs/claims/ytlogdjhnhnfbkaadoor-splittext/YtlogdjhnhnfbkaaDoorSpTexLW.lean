/- The walk of 'beaglelaw12.SplitText': it answers true; nothing that was there is turned. For the statement's proof. -/
import Derived.OpenShut
import Derived.ProofKit
import Derived.Test.YtlogdjhnhnfbkaaDoorSpTxt
namespace Go.Proofs.YtlogdjhnhnfbkaaDoor.splitText
open Go.ChangeShapes Go.WideShapes Go.ChangeAt Go.RowKit Cls
set_option linter.unusedVariables false

theorem text_facts (P : Nat → Nat → Bool) (n : Nat) (K : Int) (s u : ByteArray) (x y : Int) (h1 : spe P n K s.size x y = 0) (h2 : spe P n K u.size x y = 0) (h3 : spe P n K (s ++ u).size x y = 0) :
    spc P n K s x y <+: spc P n K (s ++ u) x y ∧ ∃ d, (spc P n K (s ++ u) x y).length = d + (spc P n K u x y).length ∧ ∀ t, (ht : t < (spc P n K u x y).length) → (h2 : d + t < (spc P n K (s ++ u) x y).length) → (spc P n K (s ++ u) x y)[d + t] = (spc P n K u x y)[t] := by
  rw [spc_ok h1, spc_ok h2, spc_ok h3]
  refine ⟨cts_part P n K s u, ?_⟩
  have hle := (stn_tail P n K s u).1
  rw [← cts_len, ← cts_len] at hle
  obtain ⟨d, hd⟩ : ∃ d, (cts P n K (s ++ u)).length = d + (cts P n K u).length := ⟨(cts P n K (s ++ u)).length - (cts P n K u).length, by omega⟩
  exact ⟨d, hd, cts_tail P n K s u hd⟩

set_option maxRecDepth 4000 in
set_option maxHeartbeats 4000000 in
theorem walk (ao : Option Addr) (n cap : Nat) (P : Nat → Nat → Bool) (K : Int) (s u : ByteArray) (x y : Int) (w : World) (hp : Lp w ao n P) (hs : s.size ≤ reachBytes) (hu : u.size ≤ reachBytes) (hx : (Lit.int .i64 x).wf = true) (hy : (Lit.int .i64 y).wf = true) (hA : Tab w) (hB : TabB w) :
    Calls Tryd.prog 7 #[.agg #[.slice ao n cap, .int .i64 K], .agg #[.string s, .string u], .agg #[.int .i64 x, .int .i64 y]] w fun e w' => e = .returned (.bool true) ∧ Below w.heap.size w w' := by
  obtain ⟨w0, b0⟩ := lbox w (.slice ao n cap) (.int .i64 K)
  obtain ⟨wt, et⟩ : ∃ wt, wt = w0.alloc (.cells #[.string s, .string u] 45) := ⟨_, rfl⟩
  obtain ⟨w1, e1⟩ : ∃ w1, w1 = wt.alloc (.cells #[.int .i64 x, .int .i64 y] 40) := ⟨_, rfl⟩
  have b0t : Below w0.heap.size w0 wt := by rw [et]; exact al_below _ _
  have bt1 : Below wt.heap.size wt w1 := by rw [e1]; exact al_below _ _
  have hzt : Zt wt w0.heap.size s u := by rw [et]; exact zt_new w0 s u
  have hz1 : Za w1 wt.heap.size x y := by rw [e1]; exact za_new wt x y
  have E0 : Hid _ := b0.eq
  have ET : Hid _ := et
  have E1 : Hid _ := e1
  have HS : Hid (w.heap.size + 1 = w0.heap.size) := b0.size.symm
  have HS2 : Hid (w0.heap.size + 1 = wt.heap.size) := (by rw [et, al_size] : w0.heap.size + 1 = wt.heap.size)
  have s0 : w.heap.size < w0.heap.size := by have := b0.size; omega
  have st : w0.heap.size < wt.heap.size := by have := HS2.out; omega
  have b01 : Below w0.heap.size w0 w1 := b0t.trans (bt1.mono (Nat.le_of_lt st))
  have B1 : Hid (Below w.heap.size w w1) := b0.bel.trans (b01.mono b0.bel.size)
  have A1 : Hid (Tab w1) := tab_grow hA B1.out
  have AB1 : Hid (TabB w1) := hB.grow B1.out
  have hc := two_below ⟨b0.c0, b0.c1⟩ b01 s0
  obtain ⟨c0, c1⟩ := hc
  have z0 : w1.cell? ⟨w0.heap.size, 0, none⟩ = some (.string s) := (bt1.cell (p := ⟨w0.heap.size, 0, none⟩) st).trans hzt.c0
  have z1 : w1.cell? ⟨w0.heap.size, 1, none⟩ = some (.string u) := (bt1.cell (p := ⟨w0.heap.size, 1, none⟩) st).trans hzt.c1
  have Z1 : Hid (Za w1 wt.heap.size x y) := hz1
  have CA : Hid _ := fun (v : World) (hu : Tab v) (hv : TabB v) => alive12_any v hu hv
  unfold reachBytes at hs hu
  have hsm := hp.small
  obtain ⟨t, ht⟩ : ∃ t, s ++ u = t := ⟨_, rfl⟩
  have htl : t.size = s.size + u.size := by rw [← ht, ByteArray.size_append]
  have hadd : ∀ w, (Op.stringOp .add s u).run Tryd.prog w = .ok (.string t) w := fun w => by rw [run_string_add_sum (P := Tryd.prog) (w := w) s u (by omega), ht]
  have hsum : s.size + u.size ≤ 9223372036854775807 := by omega
  have CF : Hid _ := fun (v : World) => few12_any n cap ao K t (by omega) hsm v
  by_cases hn : n ≤ 100 ∧ t.size ≤ 300
  · rw [decide_eq_true hn] at CF
    obtain ⟨hn1, hn2⟩ := hn
    have TT : Hid (Lx w w1 w.heap.size ao n cap P K) := ⟨B1.out, ⟨c0, c1⟩, (hp.grow B1.out).lf hn1, A1.out, AB1.out⟩
    have CR : Hid _ := fun (v : World) (h : Lf v ao n P) => refRight_any P n cap ao K v h
    have HE : Hid _ := text_facts P n K s u x y
    rw [ht] at HE
    have CX0 : Hid _ := fun (v : World) (h1 : Tab v) (h2 : TabB v) (h3 : Lf v ao n P) => counts12_cap P n cap ao K x y s (by omega) v h1 h2 h3
    have CY0 : Hid _ := fun (v : World) (h1 : Tab v) (h2 : TabB v) (h3 : Lf v ao n P) => counts12_cap P n cap ao K x y u (by omega) v h1 h2 h3
    have CW0 : Hid _ := fun (v : World) (h1 : Tab v) (h2 : TabB v) (h3 : Lf v ao n P) => counts12_cap P n cap ao K x y t (by omega) v h1 h2 h3
    have hl1 := spc_len P n K s x y
    have hl2 := spc_len P n K u x y
    have hl3 := spc_len P n K t x y
    generalize spq P n K s.size x y = Q1 at *
    generalize spe P n K s.size x y = C1 at *
    generalize spq P n K u.size x y = Q2 at *
    generalize spe P n K u.size x y = C2 at *
    generalize spq P n K t.size x y = Q3 at *
    generalize spe P n K t.size x y = C3 at *
    generalize spc P n K s x y = L1 at *
    generalize spc P n K u x y = L2 at *
    generalize spc P n K t x y = L3 at *
    obtain ⟨a, ha⟩ : ∃ a, L1.length = a := ⟨_, rfl⟩
    obtain ⟨b, hb⟩ : ∃ b, L2.length = b := ⟨_, rfl⟩
    obtain ⟨c, hcc⟩ : ∃ c, L3.length = c := ⟨_, rfl⟩
    have HLa : Hid (L1.length = a) := ha
    have HLb : Hid (L2.length = b) := hb
    have HLc : Hid (L3.length = c) := hcc
    have CX : Hid (∀ (v : World), Tab v → TabB v → Lf v ao n P → Calls Tryd.prog 19 #[.agg #[.slice ao n cap, .int .i64 K], .string s, .int .i64 x, .int .i64 y] v fun e w' => (∃ bo d, e = .returned (.tuple #[.slice bo a d, .int .i64 Q1, .int .i64 C1]) ∧ Is w' bo L1 ∧ a ≤ d) ∧ Below v.heap.size v w') := fun v h1 h2 h3 => (CX0.out v h1 h2 h3).mono (fun e w' h => by rw [← ha]; exact h)
    have CY : Hid (∀ (v : World), Tab v → TabB v → Lf v ao n P → Calls Tryd.prog 19 #[.agg #[.slice ao n cap, .int .i64 K], .string u, .int .i64 x, .int .i64 y] v fun e w' => (∃ bo d, e = .returned (.tuple #[.slice bo b d, .int .i64 Q2, .int .i64 C2]) ∧ Is w' bo L2 ∧ b ≤ d) ∧ Below v.heap.size v w') := fun v h1 h2 h3 => (CY0.out v h1 h2 h3).mono (fun e w' h => by rw [← hb]; exact h)
    have CW : Hid (∀ (v : World), Tab v → TabB v → Lf v ao n P → Calls Tryd.prog 19 #[.agg #[.slice ao n cap, .int .i64 K], .string t, .int .i64 x, .int .i64 y] v fun e w' => (∃ bo d, e = .returned (.tuple #[.slice bo c d, .int .i64 Q3, .int .i64 C3]) ∧ Is w' bo L3 ∧ c ≤ d) ∧ Below v.heap.size v w') := fun v h1 h2 h3 => (CW0.out v h1 h2 h3).mono (fun e w' h => by rw [← hcc]; exact h)
    have CP1 : Hid _ := fun (v : World) (xo yo : Option Addr) (d e : Nat) (h1 : Is v xo L1) (h2 : Is v yo L1) => places_same L1 a ha (by omega) xo yo d e v h1 h2
    have CP2 : Hid _ := fun (v : World) (xo yo : Option Addr) (d e : Nat) (h1 : Io v xo L2) (h2 : Is v yo L2) => places_off L2 b hb (by omega) d e xo yo v h1 h2
    rw [hb] at hl2
    rw [hcc] at hl3
    rw [ha] at hl1
    clear b0 b01 b0t bt1 e1 et hz1 hzt hA hB hp A1 AB1 B1 hx hy CX0 CY0 CW0 ha hb hcc ht s0
    cases hr : rgt P n K with
    | false =>
      rw [hr] at CR
      clear hr HE CX CY CW CP1 CP2
      go_enter Tryd.func7, Tryd.ntmps7
      go_wp2_with (first | rw [← E0.out, ← ET.out, ← E1.out, HS.out, HS2.out])
      clear E0 E1 ET HS HS2
      go_quiet (fail)
      have T2 : Hid (Lx w (w1.drewN nq) w.heap.size ao n cap P K) := TT.out.drewN nq
      clear c0 c1 z0 z1 TT Z1
      obtain ⟨c0, c1⟩ := T2.out.c
      go_wp2_with fail
      refine Calls.mono (CF.out _) ?_; rintro e w3 ⟨rfl, b3⟩
      have T3 : Hid (Lx w w3 w.heap.size ao n cap P K) := T2.out.grow b3
      clear b3 T2 c0 c1 CF
      obtain ⟨c0, c1⟩ := T3.out.c
      go_wp2_with fail
      refine Calls.mono (CR.out w3 T3.out.l) ?_; rintro e w4 ⟨rfl, b4⟩
      have T4 : Hid (Lx w w4 w.heap.size ao n cap P K) := T3.out.grow b4
      clear b4 T3 c0 c1 CR
      go_wp2_with fail
      refine Calls.mono (CA.out w4 T4.out.ta T4.out.tb) ?_; rintro e w5 ⟨rfl, b5⟩
      have T5 : Hid (Lx w w5 w.heap.size ao n cap P K) := T4.out.grow b5
      clear b5 T4 CA
      go_wp2_with fail
      go_ret
      exact ⟨rfl, T5.out.bel⟩
    | true =>
      rw [hr] at CR
      clear hr
      go_enter Tryd.func7, Tryd.ntmps7
      go_wp2_with (first | rw [← E0.out, ← ET.out, ← E1.out, HS.out, HS2.out])
      clear E0 E1 ET HS HS2
      go_quiet (fail)
      have T2 : Hid (Lx w (w1.drewN nq) w.heap.size ao n cap P K) := TT.out.drewN nq
      have Z2 : Hid (Za (w1.drewN nq) wt.heap.size x y) := ⟨Z1.out.c0, Z1.out.c1⟩
      clear c0 c1 z0 z1 TT Z1
      generalize wt.heap.size = g at *
      obtain ⟨c0, c1⟩ := T2.out.c
      go_wp2_with fail
      refine Calls.mono (CF.out _) ?_; rintro e w3 ⟨rfl, b3⟩
      have T3 : Hid (Lx w w3 w.heap.size ao n cap P K) := T2.out.grow b3
      have Z3 : Hid (Za w3 g x y) := Z2.out.grow b3
      clear b3 T2 Z2 c0 c1 CF
      obtain ⟨c0, c1⟩ := T3.out.c
      go_wp2_with fail
      refine Calls.mono (CR.out w3 T3.out.l) ?_; rintro e w4 ⟨rfl, b4⟩
      have T4 : Hid (Lx w w4 w.heap.size ao n cap P K) := T3.out.grow b4
      have Z4 : Hid (Za w4 g x y) := Z3.out.grow b4
      clear b4 T3 Z3 c0 c1 CR
      obtain ⟨c0, c1⟩ := T4.out.c
      have z0 := Z4.out.c0
      have z1 := Z4.out.c1
      go_wp2_with fail
      refine Calls.mono (CX.out w4 T4.out.ta T4.out.tb T4.out.l) ?_; rintro e w5 ⟨⟨xo, xc, rfl, hi, hxc⟩, b5⟩
      have T5 : Hid (Lx w w5 w.heap.size ao n cap P K) := T4.out.grow b5
      have Z5 : Hid (Za w5 g x y) := Z4.out.grow b5
      have X5 : Hid (Is w5 xo L1) := hi
      clear b5 T4 Z4 c0 c1 z0 z1 CX hi hxc
      obtain ⟨c0, c1⟩ := T5.out.c
      have z0 := Z5.out.c0
      have z1 := Z5.out.c1
      go_wp2_with fail
      refine Calls.mono (CY.out w5 T5.out.ta T5.out.tb T5.out.l) ?_; rintro e w6 ⟨⟨yo, yc, rfl, hi, hyc⟩, b6⟩
      have T6 : Hid (Lx w w6 w.heap.size ao n cap P K) := T5.out.grow b6
      have Z6 : Hid (Za w6 g x y) := Z5.out.grow b6
      have X6 : Hid (Is w6 xo L1) := X5.out.grow b6
      have Y6 : Hid (Is w6 yo L2) := hi
      clear b6 T5 Z5 X5 c0 c1 z0 z1 CY hi hyc
      obtain ⟨c0, c1⟩ := T6.out.c
      have z0 := Z6.out.c0
      have z1 := Z6.out.c1
      go_wp2_with fail
      refine Calls.mono (CW.out w6 T6.out.ta T6.out.tb T6.out.l) ?_; rintro e w7 ⟨⟨wo, wc, rfl, hi, hwc⟩, b7⟩
      have T7 : Hid (Lx w w7 w.heap.size ao n cap P K) := T6.out.grow b7
      have X7 : Hid (Is w7 xo L1) := X6.out.grow b7
      have Y7 : Hid (Is w7 yo L2) := Y6.out.grow b7
      have W7 : Hid (Is w7 wo L3 ∧ c ≤ wc) := ⟨hi, hwc⟩
      clear b7 T6 Z6 X6 Y6 c0 c1 z0 z1 CW hi hwc
      by_cases hC1 : C1 = 0
      · by_cases hC2 : C2 = 0
        · by_cases hC3 : C3 = 0
          · obtain ⟨hpre, d, hd, htail⟩ := HE.out hC1 hC2 hC3
            have HPR : Hid (L1 <+: L3) := hpre
            have hac := hpre.length_le
            have HD : Hid (L3.length = d + L2.length) := hd
            have HTL : Hid _ := htail
            rw [HLa.out, HLc.out] at hac
            rw [HLb.out, HLc.out] at hd
            have hwc := W7.out.2
            have hacI : (a : Int) ≤ (c : Int) := by omega
            have hbcI : (b : Int) ≤ (c : Int) := by omega
            have hdcI : (d : Int) ≤ (c : Int) := by omega
            have hwcI : (c : Int) ≤ (wc : Int) := by omega
            have hdc : d ≤ c := by omega
            have hcb : c - d = b := by omega
            have hwd : IntKind.i64.wrap ((c : Int) - (b : Int)) = (d : Int) := by rw [IntKind.wrap_i64]; omega
            subst hC1 hC2 hC3
            clear HE hpre htail
            go_wp2_with fail
            refine Calls.mono (CA.out w7 T7.out.ta T7.out.tb) ?_; rintro e w8 ⟨rfl, b8⟩
            have T8 : Hid (Lx w w8 w.heap.size ao n cap P K) := T7.out.grow b8
            have X8 : Hid (Is w8 xo L1) := X7.out.grow b8
            have Y8 : Hid (Is w8 yo L2) := Y7.out.grow b8
            have W8 : Hid (Is w8 wo L3) := W7.out.1.grow b8
            have V8 : Hid (Is w8 wo L1) := is_part W8.out HPR.out
            clear b8 CA T7 X7 Y7 W7 HPR
            go_wp2_with fail
            refine Calls.mono (CP1.out w8 _ _ _ _ V8.out X8.out) ?_; rintro e w9 ⟨rfl, b9⟩
            have T9 : Hid (Lx w w9 w.heap.size ao n cap P K) := T8.out.grow b9
            have Y9 : Hid (Is w9 yo L2) := Y8.out.grow b9
            have W9 : Hid (Is w9 wo L3) := W8.out.grow b9
            have hio := W9.out.cut (c := wc) HD.out (by have := HLb.out; omega) HTL.out
            have IA : Hid (wc = d → Io w9 wo L2) := fun h => by rw [if_pos h] at hio; exact hio
            have IB : Hid (¬ wc = d → Io w9 (wo.map (fun x => x.add (d * 1))) L2) := fun h => by rw [if_neg h] at hio; exact hio
            have IC : Hid (¬ wc = d → Io w9 (wo.map (fun x => x.add d)) L2) := fun h => by rw [if_neg h, Nat.mul_one] at hio; exact hio
            clear b9 T8 X8 Y8 W8 V8 CP1 HD HTL W9 hio
            go_wp2_with fail
            all_goals
              (try rw [hcb])
              first
                | (refine Calls.mono (CP2.out w9 _ yo _ _ (IA.out (by assumption)) Y9.out) ?_)
                | (refine Calls.mono (CP2.out w9 _ yo _ _ (IC.out (by assumption)) Y9.out) ?_)
                | (refine Calls.mono (CP2.out w9 _ yo _ _ (IB.out (by assumption)) Y9.out) ?_)
              rintro e w10 ⟨rfl, b10⟩
              have T10 : Hid (Lx w w10 w.heap.size ao n cap P K) := T9.out.grow b10
              clear b10 T9 IA IB IC Y9 CP2
              go_wp2_with fail
              go_ret
              exact ⟨rfl, T10.out.bel⟩
          · have hCB : (C3 == 0) = false := by simpa using hC3
            subst hC1 hC2
            clear HE X7 Y7 W7 CP1 CP2
            go_wp2_with fail
            refine Calls.mono (CA.out w7 T7.out.ta T7.out.tb) ?_; rintro e w8 ⟨rfl, b8⟩
            have T8 : Hid (Lx w w8 w.heap.size ao n cap P K) := T7.out.grow b8
            clear b8 CA T7
            go_wp2_with fail
            go_ret
            exact ⟨rfl, T8.out.bel⟩
        · have hCB : (C2 == 0) = false := by simpa using hC2
          subst hC1
          clear HE X7 Y7 W7 CP1 CP2
          go_wp2_with fail
          refine Calls.mono (CA.out w7 T7.out.ta T7.out.tb) ?_; rintro e w8 ⟨rfl, b8⟩
          have T8 : Hid (Lx w w8 w.heap.size ao n cap P K) := T7.out.grow b8
          clear b8 CA T7
          go_wp2_with fail
          go_ret
          exact ⟨rfl, T8.out.bel⟩
      · have hCB : (C1 == 0) = false := by simpa using hC1
        clear HE X7 Y7 W7 CP1 CP2
        go_wp2_with fail
        refine Calls.mono (CA.out w7 T7.out.ta T7.out.tb) ?_; rintro e w8 ⟨rfl, b8⟩
        have T8 : Hid (Lx w w8 w.heap.size ao n cap P K) := T7.out.grow b8
        clear b8 CA T7
        go_wp2_with fail
        go_ret
        exact ⟨rfl, T8.out.bel⟩
  · rw [decide_eq_false hn] at CF
    clear hn b0 b01 b0t bt1 e1 et hz1 hzt hA hB hp Z1 s0
    go_enter Tryd.func7, Tryd.ntmps7
    go_wp2_with (first | rw [← E0.out, ← ET.out, ← E1.out, HS.out, HS2.out])
    clear E0 E1 ET HS HS2
    go_quiet (fail)
    have BN : Hid (Below w.heap.size w (w1.drewN nq)) := below_drewN B1.out nq
    have AN : Hid (Tab (w1.drewN nq) ∧ TabB (w1.drewN nq)) := ⟨A1.out, AB1.out⟩
    have hcc : (w1.drewN nq).cell? ⟨w.heap.size, 0, none⟩ = some (.slice ao n cap) ∧ (w1.drewN nq).cell? ⟨w.heap.size, 1, none⟩ = some (.int .i64 K) := ⟨c0, c1⟩
    clear c0 c1 z0 z1 A1 AB1 B1
    obtain ⟨c0, c1⟩ := hcc
    go_wp2_with fail
    refine Calls.mono (CF.out _) ?_; rintro e w2 ⟨rfl, b2⟩
    have B2 : Hid (Below w.heap.size w w2) := BN.out.trans (b2.mono BN.out.size)
    have CA2 : Hid _ := CA.out w2 (tab_grow AN.out.1 b2) (AN.out.2.grow b2)
    clear b2 CA CF c0 c1 BN AN
    go_wp2_with fail
    refine Calls.mono (Hid.out CA2) ?_; rintro e w3 ⟨rfl, b3⟩
    have B3 : Hid (Below w.heap.size w w3) := B2.out.trans (b3.mono B2.out.size)
    clear b3 CA2
    go_wp2_with fail
    go_ret
    exact ⟨rfl, B3.out⟩

end Go.Proofs.YtlogdjhnhnfbkaaDoor.splitText
