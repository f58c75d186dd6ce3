/- The walk of 'beaglelaw10.WildSizes': it answers true; nothing that was there is turned. For the statement's proof. -/
import Derived.OpenShut
import Derived.ProofKit
import Derived.Test.YtbojmkkpgglhhaaDoorWdLaw
namespace Go.Proofs.YtbojmkkpgglhhaaDoor.wildSizes
open Go.ChangeShapes Go.WideShapes Go.ChangeAt Go.RowKit Cls
set_option linter.unusedVariables false

/-- Three numbers in a box. -/
structure Zc (w : World) (g : Nat) (x y z : Int) : Prop where
  c0 : w.cell? ⟨g, 0, none⟩ = some (.int .i64 x)
  c1 : w.cell? ⟨g, 1, none⟩ = some (.int .i64 y)
  c2 : w.cell? ⟨g, 2, none⟩ = some (.int .i64 z)

theorem Zc.grow {w w' : World} {g : Nat} {x y z : Int} (h : Zc w g x y z) (b : Below w.heap.size w w') : Zc w' g x y z :=
  have hl : g < w.heap.size := World.block_lt_of_cell? w _ h.c0
  ⟨(b.cell (p := ⟨g, 0, none⟩) hl).trans h.c0, (b.cell (p := ⟨g, 1, none⟩) hl).trans h.c1, (b.cell (p := ⟨g, 2, none⟩) hl).trans h.c2⟩

theorem zc_new (w : World) (x y z : Int) : Zc (w.alloc (.cells #[.int .i64 x, .int .i64 y, .int .i64 z] 44)) w.heap.size x y z := by
  have hb : (w.alloc (.cells #[.int .i64 x, .int .i64 y, .int .i64 z] 44)).heap[w.heap.size]? = some (.cells #[.int .i64 x, .int .i64 y, .int .i64 z] 44) := World.alloc_heap_new w _
  refine ⟨?_, ?_, ?_⟩
  all_goals
    unfold World.cell?
    rw [hb]
    rfl

/-- A leaf's copy, with another number. -/
theorem other_new {w v : World} {g : Nat} {ao : Option Addr} {n cap : Nat} {P : Nat → Nat → Bool} {K : Int} (h : Lx w v g ao n cap P K) (J : Int) :
    ∃ v1, v1 = v.alloc (.cells #[.slice ao n cap, .int .i64 K] 27) ∧ v1.cell? ⟨v.heap.size, 1, none⟩ = some (.int .i64 K) ∧ v1.frozen? ⟨v.heap.size, 1, none⟩ = false ∧ Below v.heap.size v v1 ∧ Below v.heap.size v (v1.setCell ⟨v.heap.size, 1, none⟩ (.int .i64 J)) ∧ Lx w (v1.setCell ⟨v.heap.size, 1, none⟩ (.int .i64 J)) v.heap.size ao n cap P J := by
  obtain ⟨v1, b⟩ := lbox v (.slice ao n cap) (.int .i64 K)
  have hw : Wrote (fun b' _ => b' = v.heap.size) v1 (v1.setCell ⟨v.heap.size, 1, none⟩ (.int .i64 J)) := (Wrote.refl (fun b' _ => b' = v.heap.size) v1).setCell rfl _
  have hb : Below v.heap.size v (v1.setCell ⟨v.heap.size, 1, none⟩ (.int .i64 J)) := b.bel.trans (hw.below (fun b' o e => by omega))
  refine ⟨v1, b.eq, b.c1, ?_, b.bel, hb, (h.grow hb).bel, ⟨?_, ?_⟩, (h.grow hb).l, (h.grow hb).ta, (h.grow hb).tb⟩
  · rw [b.eq]
    unfold World.frozen?
    rw [show (v.alloc (.cells #[.slice ao n cap, .int .i64 K] 27)).heap[v.heap.size]? = some (.cells #[.slice ao n cap, .int .i64 K] 27) from World.alloc_heap_new v _]
    simp
  · rw [cell_setCell_ne _ _ _ _ _ _ (Or.inr (by omega))]; exact b.c0
  · exact World.cell?_setCell_same _ _ _ b.c1

set_option maxRecDepth 4000 in
set_option maxHeartbeats 4000000 in
theorem walk (ao : Option Addr) (n cap : Nat) (P : Nat → Nat → Bool) (K : Int) (t : ByteArray) (x y z : Int) (w : World) (hp : Lp w ao n P) (ht : t.size ≤ maxLen) (hx : (Lit.int .i64 x).wf = true) (hy : (Lit.int .i64 y).wf = true) (hz : (Lit.int .i64 z).wf = true) (hA : Tab w) (hT : TabB w) :
    Calls Tryd.prog 7 #[.agg #[.slice ao n cap, .int .i64 K], .string t, .agg #[.int .i64 x, .int .i64 y, .int .i64 z]] w fun e w' => e = .returned (.bool true) ∧ Below w.heap.size w w' := by
  obtain ⟨w0, b0⟩ := lbox w (.slice ao n cap) (.int .i64 K)
  obtain ⟨w1, e1⟩ : ∃ w1, w1 = w0.alloc (.cells #[.int .i64 x, .int .i64 y, .int .i64 z] 44) := ⟨_, rfl⟩
  have b01 : Below w0.heap.size w0 w1 := by rw [e1]; exact al_below _ _
  have hz1 : Zc w1 w0.heap.size x y z := by rw [e1]; exact zc_new w0 x y z
  have E0 : Hid _ := b0.eq
  have E1 : Hid _ := e1
  have HS : Hid (w.heap.size + 1 = w0.heap.size) := b0.size.symm
  have s0 : w.heap.size < w0.heap.size := by have := b0.size; omega
  have B1 : Hid (Below w.heap.size w w1) := b0.bel.trans (b01.mono b0.bel.size)
  have A1 : Hid (Tab w1) := tab_grow hA B1.out
  have T1 : Hid (TabB w1) := hT.grow B1.out
  have hc := two_below ⟨b0.c0, b0.c1⟩ b01 s0
  obtain ⟨c0, c1⟩ := hc
  have Z1 : Hid (Zc w1 w0.heap.size x y z) := hz1
  have CA : Hid _ := fun (v : World) (hu : Tab v) (hv : TabB v) => alive10_any v hu hv
  unfold maxLen at ht
  have hsm := hp.small
  have CF : Hid _ := few10_any n cap ao K t (by omega) hsm w1
  by_cases hn : n ≤ 100 ∧ t.size ≤ 300
  · rw [decide_eq_true hn] at CF
    obtain ⟨hn1, hn2⟩ := hn
    have TT : Hid (Lx w w1 w.heap.size ao n cap P K) := ⟨B1.out, ⟨c0, c1⟩, (hp.grow B1.out).lf hn1, A1.out, T1.out⟩
    have hN := wn_le P n K t.size x
    have hM := wn_le P n z t.size y
    have CS : Hid _ := fun (v : World) (h1 : Tab v) (h2 : TabB v) (h3 : Lf v ao n P) => wsums_any P n cap ao K x t (by omega) v h1 h2 h3
    have CR : Hid _ := fun (v : World) (h1 : Tab v) (h2 : TabB v) (h3 : Lf v ao n P) => wsums_any P n cap ao z y t (by omega) v h1 h2 h3
    have HE : Hid (we P n K t.size x = 0 → we P n z t.size y = 0 → wn P n K t.size x = wn P n z t.size y) := fun h1 h2 => by
      rw [show wn P n K t.size x = t.size + 1 - n from if_pos h1, show wn P n z t.size y = t.size + 1 - n from if_pos h2]
    obtain ⟨N, hN'⟩ : ∃ N, wn P n K t.size x = N := ⟨_, rfl⟩
    obtain ⟨M, hM'⟩ : ∃ M, wn P n z t.size y = M := ⟨_, rfl⟩
    obtain ⟨F, hF⟩ : ∃ F : Nat → Int, (fun i => ws P t i n) = F := ⟨_, rfl⟩
    rw [hN'] at CS hN HE
    rw [hM'] at CR hM HE
    rw [hF] at CS CR
    generalize wq P n K t.size x = Q at *
    generalize we P n K t.size x = C at *
    generalize wq P n z t.size y = R at *
    generalize we P n z t.size y = D at *
    have CM : Hid _ := fun (v : World) (xo yo : Option Addr) (d e : Nat) (h1 : Lies v xo N F) (h2 : Lies v yo N F) => same_told N (by omega) F xo yo d e v h1 h2
    clear b0 b01 e1 hz1 hT hA hp T1 A1 B1 hF hN' hM' hx hy hz
    go_enter Tryd.func7, Tryd.ntmps7
    go_wp2_with (first | rw [← E0.out, ← E1.out, HS.out])
    clear E0 E1 HS
    refine Calls.mono (Hid.out CF) ?_; rintro e w2 ⟨rfl, b2⟩
    have T2 : Hid (Lx w w2 w.heap.size ao n cap P K) := Lx.grow TT.out b2
    have Z2 : Hid (Zc w2 w0.heap.size x y z) := Z1.out.grow b2
    clear b2 TT c0 c1 CF Z1
    generalize w0.heap.size = g at *
    obtain ⟨c0, c1⟩ := T2.out.c
    obtain ⟨w3, e3, k1, kf, b3, b4, lx4⟩ := other_new T2.out z
    have E3 : Hid _ := e3
    have hg : g < w2.heap.size := World.block_lt_of_cell? w2 _ Z2.out.c0
    have z3 := (b3.cell (p := ⟨g, 2, none⟩) hg).trans Z2.out.c2
    have T4 : Hid _ := T2.out.grow b4
    have O4 : Hid _ := lx4
    have Z4 : Hid _ := Z2.out.grow b4
    have q0 := T4.out.c.1
    have q1 := T4.out.c.2
    have z0 := Z4.out.c0
    clear e3 b3 b4 lx4
    go_wp2_with (first | rw [← E3.out])
    clear E3 c0 c1 k1 kf z3 T2 Z2 q0 q1 z0
    generalize w3.setCell ⟨w2.heap.size, 1, none⟩ (.int .i64 z) = w4 at *
    generalize w2.heap.size = g2 at *
    refine Calls.mono (CS.out w4 T4.out.ta T4.out.tb T4.out.l) ?_; rintro e w5 ⟨xo, xc, rfl, lx, b5⟩
    have O5 : Hid _ := O4.out.grow b5
    have Z5 : Hid _ := Z4.out.grow b5
    have LX5 : Hid (Lies w5 xo N F) := lx
    clear b5 T4 O4 Z4 lx CS
    obtain ⟨c0, c1⟩ := O5.out.c
    have z0 := Z5.out.c1
    go_wp2_with fail
    refine Calls.mono (CR.out w5 O5.out.ta O5.out.tb O5.out.l) ?_; rintro e w6 ⟨yo, yc, rfl, ly, b6⟩
    have O6 : Hid _ := O5.out.grow b6
    have LX6 : Hid (Lies w6 xo N F) := LX5.out.below b6 (Nat.le_refl _)
    have LY6 : Hid (Lies w6 yo M F) := ly
    clear b6 O5 Z5 c0 c1 z0 ly CR LX5
    go_wp2_with fail
    refine Calls.mono (CA.out w6 O6.out.ta O6.out.tb) ?_; rintro e w7 ⟨rfl, b7⟩
    have O7 : Hid _ := O6.out.grow b7
    have LX7 : Hid (Lies w7 xo N F) := LX6.out.below b7 (Nat.le_refl _)
    have LY7 : Hid (Lies w7 yo M F) := LY6.out.below b7 (Nat.le_refl _)
    clear b7 O6 CA LX6 LY6
    by_cases hC : C = 0
    · by_cases hD : D = 0
      · have hNM := HE.out hC hD
        subst hNM hC hD
        go_wp2_with fail
        refine Calls.mono (CM.out w7 xo yo xc yc LX7.out LY7.out) ?_; rintro e w8 ⟨rfl, b8⟩
        have O8 : Hid _ := O7.out.grow b8
        clear b8 O7 LX7 LY7
        go_wp2_with fail
        go_ret
        exact ⟨rfl, O8.out.bel⟩
      · have hDB : (D == 0) = false := by simpa using hD
        subst hC
        go_wp2_with fail
        go_ret
        exact ⟨rfl, O7.out.bel⟩
    · have hCB : (C == 0) = false := by simpa using hC
      go_wp2_with fail
      go_ret
      exact ⟨rfl, O7.out.bel⟩
  · rw [decide_eq_false hn] at CF
    clear hn b0 b01 e1 hz1 hT hA hp Z1
    go_enter Tryd.func7, Tryd.ntmps7
    go_wp2_with (first | rw [← E0.out, ← E1.out, HS.out])
    refine Calls.mono (Hid.out CF) ?_; rintro e w2 ⟨rfl, b2⟩
    have B2 : Hid (Below w.heap.size w w2) := B1.out.trans (b2.mono B1.out.size)
    have CA2 : Hid _ := CA.out w2 (tab_grow A1.out b2) (T1.out.grow b2)
    clear b2 CA CF c0 c1 E1 E0 HS
    go_wp2_with fail
    refine Calls.mono (Hid.out CA2) ?_; rintro e w3 ⟨rfl, b3⟩
    have B3 : Hid (Below w.heap.size w w3) := B2.out.trans (b3.mono B2.out.size)
    clear b3 CA2
    go_wp2_with fail
    go_ret
    exact ⟨rfl, B3.out⟩

end Go.Proofs.YtbojmkkpgglhhaaDoor.wildSizes
