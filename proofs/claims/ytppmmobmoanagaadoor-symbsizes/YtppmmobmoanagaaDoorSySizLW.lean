/- The walk of 'beaglelaw11.SymbSizes': it answers true; nothing that was there is turned. For the statement's proof. -/
import Derived.OpenShut
import Derived.ProofKit
import Derived.Test.YtppmmobmoanagaaDoorSyAl
namespace Go.Proofs.YtppmmobmoanagaaDoor.symbSizes
open Go.ChangeShapes Go.WideShapes Go.ChangeAt Go.RowKit Cls
set_option linter.unusedVariables false

/-- Two numbers in a box. -/
structure Zc2 (w : World) (g : Nat) (x y : Int) : Prop where
  c0 : w.cell? ⟨g, 0, none⟩ = some (.int .i64 x)
  c1 : w.cell? ⟨g, 1, none⟩ = some (.int .i64 y)

theorem Zc2.grow {w w' : World} {g : Nat} {x y : Int} (h : Zc2 w g x y) (b : Below w.heap.size w w') : Zc2 w' g x y :=
  have hl : g < w.heap.size := World.block_lt_of_cell? w _ h.c0
  ⟨(b.cell (p := ⟨g, 0, none⟩) hl).trans h.c0, (b.cell (p := ⟨g, 1, none⟩) hl).trans h.c1⟩

theorem zc2_new (w : World) (x y : Int) : Zc2 (w.alloc (.cells #[.int .i64 x, .int .i64 y] 47)) w.heap.size x y := by
  have hb : (w.alloc (.cells #[.int .i64 x, .int .i64 y] 47)).heap[w.heap.size]? = some (.cells #[.int .i64 x, .int .i64 y] 47) := World.alloc_heap_new w _
  refine ⟨?_, ?_⟩
  all_goals
    unfold World.cell?
    rw [hb]
    rfl

set_option maxRecDepth 4000 in
set_option maxHeartbeats 4000000 in
theorem walk (ao : Option Addr) (n cap : Nat) (P : Nat → Nat → Bool) (K : Int) (t : ByteArray) (x y : Int) (w : World) (hp : Lp w ao n P) (ht : t.size ≤ maxLen) (hx : (Lit.int .i64 x).wf = true) (hy : (Lit.int .i64 y).wf = true) (hA : Tab w) :
    Calls Tryd.prog 7 #[.agg #[.slice ao n cap, .int .i64 K], .string t, .agg #[.int .i64 x, .int .i64 y]] w fun e w' => e = .returned (.bool true) ∧ Below w.heap.size w w' := by
  obtain ⟨w0, b0⟩ := lbox w (.slice ao n cap) (.int .i64 K)
  obtain ⟨w1, e1⟩ : ∃ w1, w1 = w0.alloc (.cells #[.int .i64 x, .int .i64 y] 47) := ⟨_, rfl⟩
  have b01 : Below w0.heap.size w0 w1 := by rw [e1]; exact al_below _ _
  have hz1 : Zc2 w1 w0.heap.size x y := by rw [e1]; exact zc2_new w0 x y
  have E0 : Hid _ := b0.eq
  have E1 : Hid _ := e1
  have HS : Hid (w.heap.size + 1 = w0.heap.size) := b0.size.symm
  have s0 : w.heap.size < w0.heap.size := by have := b0.size; omega
  have B1 : Hid (Below w.heap.size w w1) := b0.bel.trans (b01.mono b0.bel.size)
  have A1 : Hid (Tab w1) := hA.below B1.out (tab_lt hA)
  have hc := two_below ⟨b0.c0, b0.c1⟩ b01 s0
  obtain ⟨c0, c1⟩ := hc
  have Z1 : Hid (Zc2 w1 w0.heap.size x y) := hz1
  have CA : Hid _ := fun (v : World) (hu : Tab v) => alive11_any v hu
  unfold maxLen at ht
  have hsm := hp.small
  have CF : Hid _ := few11_any n cap ao K t (by omega) hsm w1
  by_cases hn : n ≤ 100 ∧ t.size ≤ 300
  · rw [decide_eq_true hn] at CF
    obtain ⟨hn1, hn2⟩ := hn
    have TT : Hid (Ly w w1 w.heap.size ao n cap P K) := ⟨B1.out, ⟨c0, c1⟩, (hp.grow B1.out).lf hn1, A1.out⟩
    have hN := sc_len P n K t x
    have hM := sc_len P n K t y
    have CS : Hid _ := fun (v : World) (h1 : Tab v) (h3 : Lf v ao n P) => counts11_any P n cap ao K x t (by omega) v h1 h3
    have CR : Hid _ := fun (v : World) (h1 : Tab v) (h3 : Lf v ao n P) => counts11_any P n cap ao K y t (by omega) v h1 h3
    have HE : Hid (se P n K t.size x = 0 → se P n K t.size y = 0 → sc P n K t x = sc P n K t y) := fun h1 h2 => by rw [sc_ok h1, sc_ok h2]
    obtain ⟨L, hL⟩ : ∃ L, sc P n K t x = L := ⟨_, rfl⟩
    obtain ⟨M, hM'⟩ : ∃ M, sc P n K t y = M := ⟨_, rfl⟩
    rw [hL] at CS hN HE
    rw [hM'] at CR hM HE
    generalize sq P n K t.size x = Q at *
    generalize se P n K t.size x = C at *
    generalize sq P n K t.size y = R at *
    generalize se P n K t.size y = D at *
    obtain ⟨l, hl⟩ : ∃ l, L.length = l := ⟨_, rfl⟩
    obtain ⟨m, hm⟩ : ∃ m, M.length = m := ⟨_, rfl⟩
    have CS' : Hid (∀ (v : World), Tab v → Lf v ao n P → Calls Tryd.prog 16 #[.agg #[.slice ao n cap, .int .i64 K], .string t, .int .i64 x] v fun e w' => (∃ bo d, e = .returned (.tuple #[.slice bo l d, .int .i64 Q, .int .i64 C]) ∧ Is w' bo L) ∧ Below v.heap.size v w') := fun v h1 h3 => (CS.out v h1 h3).mono (fun e w' h => by rw [← hl]; exact h)
    have CR' : Hid (∀ (v : World), Tab v → Lf v ao n P → Calls Tryd.prog 16 #[.agg #[.slice ao n cap, .int .i64 K], .string t, .int .i64 y] v fun e w' => (∃ bo d, e = .returned (.tuple #[.slice bo m d, .int .i64 R, .int .i64 D]) ∧ Is w' bo M) ∧ Below v.heap.size v w') := fun v h1 h3 => (CR.out v h1 h3).mono (fun e w' h => by rw [← hm]; exact h)
    have CP : Hid (∀ (v : World) (xo yo : Option Addr) (d e : Nat), L = M → Is v xo L → Is v yo M → Calls Tryd.prog 18 #[.slice xo l d, .slice yo m e] v fun e w' => e = .returned (.bool true) ∧ Below v.heap.size v w') := fun v xo yo d e hLM h1 h2 => by
      subst hLM
      have h := places_any L L d e xo yo v h1 h2 (by omega) (by omega)
      rw [eqi_same] at h
      rw [← hl, ← hm]
      exact h
    clear b0 b01 e1 hz1 hA hp A1 B1 hL hM' hx hy CS CR hl hm
    go_enter Tryd.func7, Tryd.ntmps7
    go_wp2_with (first | rw [← E0.out, ← E1.out, HS.out])
    clear E0 E1 HS
    refine Calls.mono (Hid.out CF) ?_; rintro e w2 ⟨rfl, b2⟩
    have T2 : Hid (Ly w w2 w.heap.size ao n cap P K) := Ly.grow TT.out b2
    have Z2 : Hid (Zc2 w2 w0.heap.size x y) := Z1.out.grow b2
    clear b2 TT c0 c1 CF Z1
    generalize w0.heap.size = g at *
    obtain ⟨c0, c1⟩ := T2.out.c
    have z0 := Z2.out.c0
    go_wp2_with fail
    refine Calls.mono (CS'.out w2 T2.out.ta T2.out.l) ?_; rintro e w5 ⟨⟨xo, xc, rfl, lx⟩, b5⟩
    have O5 : Hid _ := T2.out.grow b5
    have Z5 : Hid _ := Z2.out.grow b5
    have LX5 : Hid (Is w5 xo L) := lx
    clear b5 T2 Z2 lx CS' c0 c1 z0
    obtain ⟨c0, c1⟩ := O5.out.c
    have z0 := Z5.out.c1
    go_wp2_with fail
    refine Calls.mono (CR'.out w5 O5.out.ta O5.out.l) ?_; rintro e w6 ⟨⟨yo, yc, rfl, ly⟩, b6⟩
    have O6 : Hid _ := O5.out.grow b6
    have LX6 : Hid (Is w6 xo L) := LX5.out.grow b6
    have LY6 : Hid (Is w6 yo M) := ly
    clear b6 O5 Z5 c0 c1 z0 ly CR' LX5
    go_wp2_with fail
    refine Calls.mono (CA.out w6 O6.out.ta) ?_; rintro e w7 ⟨rfl, b7⟩
    have O7 : Hid _ := O6.out.grow b7
    have LX7 : Hid (Is w7 xo L) := LX6.out.grow b7
    have LY7 : Hid (Is w7 yo M) := LY6.out.grow b7
    clear b7 O6 CA LX6 LY6
    by_cases hC : C = 0
    · by_cases hD : D = 0
      · have hNM := HE.out hC hD
        have HC : Hid _ := CP.out w7 xo yo xc yc hNM LX7.out LY7.out
        subst hC hD
        clear CP
        go_wp2_with fail
        refine Calls.mono (Hid.out HC) ?_; rintro e w8 ⟨rfl, b8⟩
        have O8 : Hid _ := O7.out.grow b8
        clear b8 O7 LX7 LY7 HC
        go_wp2_with fail
        go_ret
        exact ⟨rfl, O8.out.bel⟩
      · have hDB : (D == 0) = false := by simpa using hD
        subst hC
        go_wp2_with fail
        go_ret
        exact ⟨rfl, O7.out.bel⟩
    · have hCB : (C == 0) = false := by simpa using hC
      go_wp2_with fail
      go_ret
      exact ⟨rfl, O7.out.bel⟩
  · rw [decide_eq_false hn] at CF
    clear hn b0 b01 e1 hz1 hA hp Z1
    go_enter Tryd.func7, Tryd.ntmps7
    go_wp2_with (first | rw [← E0.out, ← E1.out, HS.out])
    refine Calls.mono (Hid.out CF) ?_; rintro e w2 ⟨rfl, b2⟩
    have B2 : Hid (Below w.heap.size w w2) := B1.out.trans (b2.mono B1.out.size)
    have CA2 : Hid _ := CA.out w2 (A1.out.below b2 (tab_lt A1.out))
    clear b2 CA CF c0 c1 E1 E0 HS
    go_wp2_with fail
    refine Calls.mono (Hid.out CA2) ?_; rintro e w3 ⟨rfl, b3⟩
    have B3 : Hid (Below w.heap.size w w3) := B2.out.trans (b3.mono B2.out.size)
    clear b3 CA2
    go_wp2_with fail
    go_ret
    exact ⟨rfl, B3.out⟩

end Go.Proofs.YtppmmobmoanagaaDoor.symbSizes
