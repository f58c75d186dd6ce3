/- The walk of 'beaglelaw12.SplitLeast': it answers true; nothing that was there is turned. For the statement's proof. -/
import Derived.OpenShut
import Derived.ProofKit
import Derived.Test.YtlogdjhnhnfbkaaDoorSpC
namespace Go.Proofs.YtlogdjhnhnfbkaaDoor.splitLeast
open Go.ChangeShapes Go.WideShapes Go.ChangeAt Go.RowKit Cls
set_option linter.unusedVariables false

theorem least_facts (P : Nat → Nat → Bool) (n : Nat) (K : Int) (t : ByteArray) (x y : Int) (h : spe P n K t.size x y = 0) :
    spe P n K t.size x (y + 1) = 0 ∧ spe P n K t.size x ((n : Int) + 1) = 0 ∧ spc P n K t x y = spc P n K t x (y + 1) ∧ spc P n K t x y = spc P n K t x ((n : Int) + 1) ∧ spq P n K t.size x (y + 1) ≤ spq P n K t.size x y ∧ spq P n K t.size x ((n : Int) + 1) = 0 := by
  have h1 := spe_more (P := P) (n := n) (m := t.size) (K := K) (z := x) (a := y) (b := y + 1) (by omega) h
  have hf : fks P n ((n : Int) + 1) = [] := fks_none P n (by omega)
  have hno : ¬ (rgt P n K = false ∨ pln P n = false) := fun hh => by rw [spe_form hh] at h; cases h
  have hr : rgt P n K = true := by
    cases e : rgt P n K with
    | true => rfl
    | false => exact absurd (.inl e) hno
  have hp : pln P n = true := by
    cases e : pln P n with
    | true => rfl
    | false => exact absurd (.inr e) hno
  have h2 : spe P n K t.size x ((n : Int) + 1) = 0 := spe_ok hr hp (.inl (by rw [hf]; rfl))
  refine ⟨h1, h2, by rw [spc_ok h, spc_ok h1], by rw [spc_ok h, spc_ok h2], ?_, ?_⟩
  · rw [spq_ok h, spq_ok h1]
    have := fks_more P n (a := y) (b := y + 1) (by omega)
    exact Int.mul_le_mul_of_nonneg_right (by omega) (ct_small11 (n := n) (m := t.size) (z := x)).1
  · rw [spq_ok h2, hf]
    simp

theorem least_none (P : Nat → Nat → Bool) (n : Nat) (K : Int) (t : ByteArray) (x y : Int) (h : ¬ spe P n K t.size x y = 0) : (spc P n K t x y).length = 0 := by rw [spc_no h]; rfl

set_option maxRecDepth 4000 in
set_option maxHeartbeats 4000000 in
theorem walk (ao : Option Addr) (n cap : Nat) (P : Nat → Nat → Bool) (K : Int) (t : ByteArray) (x y : Int) (w : World) (hp : Lp w ao n P) (ht : t.size ≤ maxLen) (hx : (Lit.int .i64 x).wf = true) (hy : (Lit.int .i64 y).wf = true) (hA : Tab w) (hB : TabB w) :
    Calls Tryd.prog 6 #[.agg #[.slice ao n cap, .int .i64 K], .string t, .agg #[.int .i64 x, .int .i64 y]] w fun e w' => e = .returned (.bool true) ∧ Below w.heap.size w w' := by
  obtain ⟨w0, b0⟩ := lbox w (.slice ao n cap) (.int .i64 K)
  obtain ⟨w1, e1⟩ : ∃ w1, w1 = w0.alloc (.cells #[.int .i64 x, .int .i64 y] 40) := ⟨_, rfl⟩
  have b01 : Below w0.heap.size w0 w1 := by rw [e1]; exact al_below _ _
  have hz1 : Za w1 w0.heap.size x y := by rw [e1]; exact za_new w0 x y
  have E0 : Hid _ := b0.eq
  have E1 : Hid _ := e1
  have HS : Hid (w.heap.size + 1 = w0.heap.size) := b0.size.symm
  have s0 : w.heap.size < w0.heap.size := by have := b0.size; omega
  have B1 : Hid (Below w.heap.size w w1) := b0.bel.trans (b01.mono b0.bel.size)
  have A1 : Hid (Tab w1) := tab_grow hA B1.out
  have AB1 : Hid (TabB w1) := hB.grow B1.out
  have hc := two_below ⟨b0.c0, b0.c1⟩ b01 s0
  obtain ⟨c0, c1⟩ := hc
  have Z1 : Hid (Za w1 w0.heap.size x y) := hz1
  have CA : Hid _ := fun (v : World) (hu : Tab v) (hv : TabB v) => alive12_any v hu hv
  unfold maxLen at ht
  have hsm := hp.small
  have CF : Hid _ := few12_any n cap ao K t (by omega) hsm w1
  by_cases hn : n ≤ 100 ∧ t.size ≤ 300
  · rw [decide_eq_true hn] at CF
    obtain ⟨hn1, hn2⟩ := hn
    have TT : Hid (Lx w w1 w.heap.size ao n cap P K) := ⟨B1.out, ⟨c0, c1⟩, (hp.grow B1.out).lf hn1, A1.out, AB1.out⟩
    by_cases hy1 : y ≤ 1000
    · have hyw : -9223372036854775808 ≤ y ∧ y ≤ 9223372036854775807 := by
        have h1 := hy
        simp [Lit.wf] at h1
        rw [show IntKind.i64.min = -9223372036854775808 from rfl] at h1
        exact h1
      have w1y : IntKind.i64.wrap (y + 1) = y + 1 := by rw [IntKind.wrap_i64]; omega
      have w1n : IntKind.i64.wrap ((n : Int) + 1) = (n : Int) + 1 := by rw [IntKind.wrap_i64]; omega
      have CS : Hid _ := fun (y : Int) (v : World) (h1 : Tab v) (h2 : TabB v) (h3 : Lf v ao n P) => counts12_any P n cap ao K x y t (by omega) v h1 h2 h3
      have HE : Hid _ := least_facts P n K t x y
      have HN : Hid _ := least_none P n K t x y
      have hL := spc_len P n K t x y
      have hM := spc_len P n K t x (y + 1)
      have hN := spc_len P n K t x ((n : Int) + 1)
      have CX : Hid _ := CS.out y
      have CY : Hid _ := CS.out (y + 1)
      have CZ : Hid _ := CS.out ((n : Int) + 1)
      generalize spq P n K t.size x y = Q at *
      generalize spe P n K t.size x y = C at *
      generalize spq P n K t.size x (y + 1) = R at *
      generalize spe P n K t.size x (y + 1) = D at *
      generalize spq P n K t.size x ((n : Int) + 1) = S at *
      generalize spe P n K t.size x ((n : Int) + 1) = G at *
      generalize spc P n K t x y = L at *
      generalize spc P n K t x (y + 1) = M at *
      generalize spc P n K t x ((n : Int) + 1) = N at *
      obtain ⟨l, hl⟩ : ∃ l, L.length = l := ⟨_, rfl⟩
      obtain ⟨m, hm⟩ : ∃ m, M.length = m := ⟨_, rfl⟩
      obtain ⟨q, hq⟩ : ∃ q, N.length = q := ⟨_, rfl⟩
      rw [hl] at HN
      have CX' : Hid (∀ (v : World), Tab v → TabB v → Lf v ao n P → Calls Tryd.prog 19 #[.agg #[.slice ao n cap, .int .i64 K], .string t, .int .i64 x, .int .i64 y] v fun e w' => (∃ bo d, e = .returned (.tuple #[.slice bo l d, .int .i64 Q, .int .i64 C]) ∧ Is w' bo L) ∧ Below v.heap.size v w') := fun v h1 h2 h3 => (CX.out v h1 h2 h3).mono (fun e w' h => by rw [← hl]; exact h)
      have CY' : Hid (∀ (v : World), Tab v → TabB v → Lf v ao n P → Calls Tryd.prog 19 #[.agg #[.slice ao n cap, .int .i64 K], .string t, .int .i64 x, .int .i64 (y + 1)] v fun e w' => (∃ bo d, e = .returned (.tuple #[.slice bo m d, .int .i64 R, .int .i64 D]) ∧ Is w' bo M) ∧ Below v.heap.size v w') := fun v h1 h2 h3 => (CY.out v h1 h2 h3).mono (fun e w' h => by rw [← hm]; exact h)
      have CZ' : Hid (∀ (v : World), Tab v → TabB v → Lf v ao n P → Calls Tryd.prog 19 #[.agg #[.slice ao n cap, .int .i64 K], .string t, .int .i64 x, .int .i64 ((n : Int) + 1)] v fun e w' => (∃ bo d, e = .returned (.tuple #[.slice bo q d, .int .i64 S, .int .i64 G]) ∧ Is w' bo N) ∧ Below v.heap.size v w') := fun v h1 h2 h3 => (CZ.out v h1 h2 h3).mono (fun e w' h => by rw [← hq]; exact h)
      have CP : Hid (∀ (A B : List Nat), A = B → A.length ≤ t.size + 1 → ∀ (v : World) (xo yo : Option Addr) (d e : Nat), Is v xo A → Is v yo B → Calls Tryd.prog 14 #[.slice xo A.length d, .slice yo B.length e] v fun e w' => e = .returned (.bool true) ∧ Below v.heap.size v w') := fun A B hAB hl v xo yo d e h1 h2 => by
        subst hAB
        have h := places_any A A d e xo yo v h1 h2 (by omega) (by omega)
        rw [eqi_same] at h
        exact h
      have CPM : Hid _ := fun (h : L = M) => CP.out L M h hL
      have CPN : Hid _ := fun (h : L = N) => CP.out L N h hL
      rw [hl, hm] at CPM
      rw [hl, hq] at CPN
      clear b0 b01 e1 hz1 hA hB hp A1 AB1 B1 hl hm hq CS CX CY CZ CP hx hy hL hM hN
      go_enter Tryd.func6, Tryd.ntmps6
      go_wp2_with (first | rw [← E0.out, ← E1.out, HS.out])
      clear E0 E1 HS
      refine Calls.mono (Hid.out CF) ?_; rintro e w2 ⟨rfl, b2⟩
      have T2 : Hid (Lx w w2 w.heap.size ao n cap P K) := TT.out.grow b2
      have Z2 : Hid (Za w2 w0.heap.size x y) := Z1.out.grow b2
      clear b2 TT c0 c1 CF Z1
      generalize w0.heap.size = g at *
      obtain ⟨c0, c1⟩ := T2.out.c
      have z0 := Z2.out.c0
      have z1 := Z2.out.c1
      go_wp2_with fail
      refine Calls.mono (CX'.out w2 T2.out.ta T2.out.tb T2.out.l) ?_; rintro e w3 ⟨⟨xo, xc, rfl, hx⟩, b3⟩
      have T3 : Hid (Lx w w3 w.heap.size ao n cap P K) := T2.out.grow b3
      have Z3 : Hid (Za w3 g x y) := Z2.out.grow b3
      have X3 : Hid (Is w3 xo L) := hx
      clear b3 T2 Z2 CX' hx c0 c1 z0 z1
      obtain ⟨c0, c1⟩ := T3.out.c
      have z0 := Z3.out.c0
      have z1 := Z3.out.c1
      go_wp2_with fail
      refine Calls.mono (CY'.out w3 T3.out.ta T3.out.tb T3.out.l) ?_; rintro e w4 ⟨⟨yo, yc, rfl, hy⟩, b4⟩
      have T4 : Hid (Lx w w4 w.heap.size ao n cap P K) := T3.out.grow b4
      have Z4 : Hid (Za w4 g x y) := Z3.out.grow b4
      have X4 : Hid (Is w4 xo L) := X3.out.grow b4
      have Y4 : Hid (Is w4 yo M) := hy
      clear b4 T3 Z3 CY' hy c0 c1 z0 z1 X3
      obtain ⟨c0, c1⟩ := T4.out.c
      have z0 := Z4.out.c0
      have z1 := Z4.out.c1
      go_wp2_with fail
      refine Calls.mono (CZ'.out w4 T4.out.ta T4.out.tb T4.out.l) ?_; rintro e w5 ⟨⟨zo, zc, rfl, hz⟩, b5⟩
      have T5 : Hid (Lx w w5 w.heap.size ao n cap P K) := T4.out.grow b5
      have X5 : Hid (Is w5 xo L) := X4.out.grow b5
      have Y5 : Hid (Is w5 yo M) := Y4.out.grow b5
      have U5 : Hid (Is w5 zo N) := hz
      clear b5 T4 Z4 CZ' hz c0 c1 z0 z1 X4 Y4
      by_cases hC : C = 0
      · obtain ⟨hD, hG, hLM, hLN, hRQ, hS⟩ := HE.out hC
        have HPM : Hid _ := CPM.out hLM
        have HPN : Hid _ := CPN.out hLN
        subst hC hD hG hS
        clear HE HN CPM CPN hLM hLN
        go_wp2_with fail
        refine Calls.mono (CA.out w5 T5.out.ta T5.out.tb) ?_; rintro e w6 ⟨rfl, b6⟩
        have T6 : Hid (Lx w w6 w.heap.size ao n cap P K) := T5.out.grow b6
        have X6 : Hid (Is w6 xo L) := X5.out.grow b6
        have Y6 : Hid (Is w6 yo M) := Y5.out.grow b6
        have U6 : Hid (Is w6 zo N) := U5.out.grow b6
        clear b6 T5 X5 Y5 U5 CA
        go_wp2_with fail
        refine Calls.mono (HPM.out w6 xo yo xc yc X6.out Y6.out) ?_; rintro e w7 ⟨rfl, b7⟩
        have T7 : Hid (Lx w w7 w.heap.size ao n cap P K) := T6.out.grow b7
        have X7 : Hid (Is w7 xo L) := X6.out.grow b7
        have U7 : Hid (Is w7 zo N) := U6.out.grow b7
        clear b7 T6 X6 Y6 U6 HPM
        go_wp2_with fail
        refine Calls.mono (HPN.out w7 xo zo xc zc X7.out U7.out) ?_; rintro e w8 ⟨rfl, b8⟩
        have T8 : Hid (Lx w w8 w.heap.size ao n cap P K) := T7.out.grow b8
        clear b8 T7 X7 U7 HPN
        go_wp2_with fail
        go_ret
        exact ⟨rfl, T8.out.bel⟩
      · have hCB : (C == 0) = false := by simpa using hC
        have hl0 := HN.out hC
        subst hl0
        clear HE HN CPM CPN X5 Y5 U5
        go_wp2_with fail
        refine Calls.mono (CA.out w5 T5.out.ta T5.out.tb) ?_; rintro e w6 ⟨rfl, b6⟩
        have T6 : Hid (Lx w w6 w.heap.size ao n cap P K) := T5.out.grow b6
        clear b6 T5 CA
        go_wp2_with fail
        go_ret
        exact ⟨rfl, T6.out.bel⟩
    · clear hn1 hn2 b0 b01 e1 hz1 hA hB hp A1 AB1 B1 hx hy
      go_enter Tryd.func6, Tryd.ntmps6
      go_wp2_with (first | rw [← E0.out, ← E1.out, HS.out])
      clear E0 E1 HS
      refine Calls.mono (Hid.out CF) ?_; rintro e w2 ⟨rfl, b2⟩
      have T2 : Hid (Lx w w2 w.heap.size ao n cap P K) := TT.out.grow b2
      have Z2 : Hid (Za w2 w0.heap.size x y) := Z1.out.grow b2
      clear b2 TT c0 c1 CF Z1
      generalize w0.heap.size = g at *
      obtain ⟨c0, c1⟩ := T2.out.c
      have z0 := Z2.out.c0
      have z1 := Z2.out.c1
      go_wp2_with fail
      refine Calls.mono (CA.out w2 T2.out.ta T2.out.tb) ?_; rintro e w3 ⟨rfl, b3⟩
      have T3 : Hid (Lx w w3 w.heap.size ao n cap P K) := T2.out.grow b3
      clear b3 T2 CA c0 c1 z0 z1
      go_wp2_with fail
      go_ret
      exact ⟨rfl, T3.out.bel⟩
  · rw [decide_eq_false hn] at CF
    clear hn b0 b01 e1 hz1 hA hB hp Z1
    go_enter Tryd.func6, Tryd.ntmps6
    go_wp2_with (first | rw [← E0.out, ← E1.out, HS.out])
    refine Calls.mono (Hid.out CF) ?_; rintro e w2 ⟨rfl, b2⟩
    have B2 : Hid (Below w.heap.size w w2) := B1.out.trans (b2.mono B1.out.size)
    have CA2 : Hid _ := CA.out w2 (tab_grow A1.out b2) (AB1.out.grow b2)
    clear b2 CA CF c0 c1 E1 E0 HS
    go_wp2_with fail
    refine Calls.mono (Hid.out CA2) ?_; rintro e w3 ⟨rfl, b3⟩
    have B3 : Hid (Below w.heap.size w w3) := B2.out.trans (b3.mono B2.out.size)
    clear b3 CA2
    go_wp2_with fail
    go_ret
    exact ⟨rfl, B3.out⟩

end Go.Proofs.YtlogdjhnhnfbkaaDoor.splitLeast
