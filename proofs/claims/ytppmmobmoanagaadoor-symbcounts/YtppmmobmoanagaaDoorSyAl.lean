/- Contracts of beaglelaw11.alive: it tells true; nothing that was there turns; and of beaglelaw11.few. -/
import Derived.Test.YtppmmobmoanagaaDoorSyCnt
import Derived.Test.YtppmmobmoanagaaDoorSyRefC
import Derived.Test.YtppmmobmoanagaaDoorLfAliveI
import Derived.Test.YtppmmobmoanagaaDoorLfAl
import Derived.Test.YtppmmobmoanagaaDoorLfLaw
import Derived.Test.YtppmmobmoanagaaDoorNvAl
import Derived.Test.YtppmmobmoanagaaDoorConvLaw
import Derived.Deep.RegionHeld3
namespace Go.Proofs.YtppmmobmoanagaaDoor
open Go.RowKit Res
namespace Cls

/-- A leaf in a box, and the table of primes. -/
structure Ly (w wk : World) (g : Nat) (ao : Option Addr) (n cap : Nat) (P : Nat → Nat → Bool) (K : Int) : Prop where
  bel : Below w.heap.size w wk
  c : wk.cell? ⟨g, 0, none⟩ = some (.slice ao n cap) ∧ wk.cell? ⟨g, 1, none⟩ = some (.int .i64 K)
  l : Lf wk ao n P
  ta : Tab wk

theorem Ly.grow {w wk w' : World} {g : Nat} {ao : Option Addr} {n cap : Nat} {P : Nat → Nat → Bool} {K : Int} (h : Ly w wk g ao n cap P K) (b : Below wk.heap.size wk w') : Ly w w' g ao n cap P K :=
  ⟨h.bel.trans (b.mono h.bel.size), two_below h.c b (World.block_lt_of_cell? wk _ h.c.1), h.l.grow b, h.ta.below b (tab_lt h.ta)⟩

theorem al_then {v v' : World} {o : Obj} (bb : Below (v.alloc o).heap.size (v.alloc o) v') : Below v.heap.size v v' := (al_below v o).trans (bb.mono (by rw [al_size]; omega))

theorem litD3 (v : World) (a b c : Nat) : Is (v.alloc (.cells #[.int .i64 (a : Int), .int .i64 (b : Int), .int .i64 (c : Int)] 3)).drew (some ⟨v.heap.size, 0, none⟩) [a, b, c] := lit3 v a b c

theorem litW2 (v : World) (a b : Int) : Lies (v.alloc (.cells #[.int .u64 a, .int .u64 b] 25)) (some ⟨v.heap.size, 0, none⟩) 2 (lst [a, b]) := fun _ => ⟨v.heap.size, 0, rfl, fam_lit v [a, b] 25⟩

theorem litW3 (v : World) (a b c : Int) : Lies (v.alloc (.cells #[.int .u64 a, .int .u64 b, .int .u64 c] 25)) (some ⟨v.heap.size, 0, none⟩) 3 (lst [a, b, c]) := fun _ => ⟨v.heap.size, 0, rfl, fam_lit v [a, b, c] 25⟩

/-- Rows of numbers that are the same. -/
theorem same_rows (N : Nat) (hN : N ≤ 1000001) (F : Nat → Int) (ao bo : Option Addr) (ca cb : Nat) (w : World) (ha : Lies w ao N F) (hb : Lies w bo N F) :
    Calls Tryd.prog 11 #[.slice ao N ca, .slice bo N cb] w fun e w' => e = .returned (.bool true) ∧ Below w.heap.size w w' :=
  (same_lies N (by omega) ao bo ca cb F F (fun _ _ => rfl) w ha hb).mono (by rintro e w' ⟨rfl, q, rfl⟩; exact ⟨rfl, below_drewN (Below.refl _ _) q⟩)

set_option maxRecDepth 4000 in
set_option maxHeartbeats 4000000 in
theorem alive11_core (fa fb : Nat → Bool)
    (hOa : ∀ w : World, Calls Tryd.prog 28 #[.string ⟨#[97]⟩] w fun e w' => e = .returned (.agg #[.int .u64 ((wd (fa) 0 : Nat) : Int), .int .u64 ((wd (fa) 1 : Nat) : Int), .int .u64 ((wd (fa) 2 : Nat) : Int), .int .u64 ((wd (fa) 3 : Nat) : Int)]) ∧ Below w.heap.size w w')
    (hOb : ∀ w : World, Calls Tryd.prog 28 #[.string ⟨#[98]⟩] w fun e w' => e = .returned (.agg #[.int .u64 ((wd (fb) 0 : Nat) : Int), .int .u64 ((wd (fb) 1 : Nat) : Int), .int .u64 ((wd (fb) 2 : Nat) : Int), .int .u64 ((wd (fb) 3 : Nat) : Int)]) ∧ Below w.heap.size w w')
    (hTx : ∀ w : World, Calls Tryd.prog 27 #[.string ⟨#[97, 98]⟩, .int .i64 1] w fun e w' => (∃ bo d, e = .returned (.agg #[.slice bo 2 d, .int .i64 1]) ∧ Lf w' bo 2 (tx tab)) ∧ Below w.heap.size w w')
    (hC : ∀ (bo : Option Addr) (d : Nat) (w : World), Tab w → Lf w bo 2 (tx tab) → Calls Tryd.prog 16 #[.agg #[.slice bo 2 d, .int .i64 1], .string ⟨#[97, 98, 98, 98]⟩, .int .i64 4] w fun e w' => (∃ co c, e = .returned (.tuple #[.slice co 3 c, .int .i64 18, .int .i64 0]) ∧ Is w' co [0, 1, 1]) ∧ Below w.heap.size w w')
    (hF : ∀ (bo : Option Addr) (d : Nat) (w : World), Tab w → Lf w bo 2 (tx tab) → Calls Tryd.prog 19 #[.agg #[.slice bo 2 d, .int .i64 1], .string ⟨#[97, 98, 98, 98]⟩, .int .i64 4] w fun e w' => (∃ co c, e = .returned (.tuple #[.slice co 3 c, .int .i64 18, .int .i64 0]) ∧ Is w' co [0, 1, 2]) ∧ Below w.heap.size w w')
    (hN : ∀ w : World, Tab w → Calls Tryd.prog 16 #[.agg #[.slice none 0 0, .int .i64 0], .string ⟨#[97]⟩, .int .i64 1] w fun e w' => (∃ co c, e = .returned (.tuple #[.slice co 0 c, .int .i64 0, .int .i64 170])) ∧ Below w.heap.size w w')
    (hS : ∀ (bo : Option Addr) (d : Nat) (w : World), Tab w → Lf w bo 2 (tx tab) → Calls Tryd.prog 19 #[.agg #[.slice bo 2 d, .int .i64 1], .string ⟨#[97, 98, 98, 98]⟩, .int .i64 3] w fun e w' => (∃ co c, e = .returned (.tuple #[.slice co 0 c, .int .i64 0, .int .i64 50])) ∧ Below w.heap.size w w')
    (hM : ∀ w : World, Calls Tryd.prog 12 #[.string ⟨#[97, 98, 97]⟩, .agg #[.int .u64 ((wd (fa) 0 : Nat) : Int), .int .u64 ((wd (fa) 1 : Nat) : Int), .int .u64 ((wd (fa) 2 : Nat) : Int), .int .u64 ((wd (fa) 3 : Nat) : Int)]] w fun e w' => (∃ g, e = .returned (.slice (some ⟨g, 0, none⟩) 3 3) ∧ Lies w' (some ⟨g, 0, none⟩) 3 (lst [1, 0, 1])) ∧ Below w.heap.size w w')
    (hPl : ∀ (bo : Option Addr) (d : Nat) (w : World), Lf w bo 2 (tx tab) → Calls Tryd.prog 14 #[.agg #[.slice bo 2 d, .int .i64 1], .agg #[.int .u64 ((wd (fb) 0 : Nat) : Int), .int .u64 ((wd (fb) 1 : Nat) : Int), .int .u64 ((wd (fb) 2 : Nat) : Int), .int .u64 ((wd (fb) 3 : Nat) : Int)]] w fun e w' => (∃ g, e = .returned (.slice (some ⟨g, 0, none⟩) 2 2) ∧ Lies w' (some ⟨g, 0, none⟩) 2 (lst [0, 1])) ∧ Below w.heap.size w w')
    (w : World) (hA : Tab w) : Calls Tryd.prog 10 #[] w fun e w' => e = .returned (.bool true) ∧ Below w.heap.size w w' := by
  have HOa : Hid _ := hOa
  have HOb : Hid _ := hOb
  have HTx : Hid _ := hTx
  have HC : Hid _ := hC
  have HF : Hid _ := hF
  have HN : Hid _ := hN
  have HS : Hid _ := hS
  have HM : Hid _ := hM
  have HPl : Hid _ := hPl
  have HA : Hid (Tab w) := hA
  have HSm : Hid (∀ (N : Nat) (G : Nat → Int) (ao bo : Option Addr) (ca cb : Nat) (w : World), N ≤ 1000001 → Lies w ao N G → Lies w bo N G → Calls Tryd.prog 11 #[.slice ao N ca, .slice bo N cb] w fun e w' => e = .returned (.bool true) ∧ Below w.heap.size w w') := fun N G ao bo ca cb w hN h1 h2 => same_rows N hN G ao bo ca cb w h1 h2
  have HP : Hid (∀ (L : List Nat) (m : Nat) (ao bo : Option Addr) (d c : Nat) (w : World), L.length = m → m ≤ 10 → Is w ao L → Is w bo L → Calls Tryd.prog 18 #[.slice ao m d, .slice bo m c] w fun e w' => e = .returned (.bool true) ∧ Below w.heap.size w w') := fun L m ao bo d c w hm h10 ha hb => by
    subst hm
    have h := places_any L L d c ao bo w ha hb (by omega) (by omega)
    rw [eqi_same] at h
    exact h
  clear hOa hOb hTx hC hF hN hS hM hPl hA
  have c1 : Hid _ := HTx.out w
  go_enter Tryd.func10, Tryd.ntmps10
  go_wp2_with fail
  refine Calls.mono (Hid.out c1) ?_; rintro e w1 ⟨⟨bo, d, rfl, l1⟩, b1⟩
  obtain ⟨w2, x2⟩ := lbox w1 (.slice bo 2 d) (.int .i64 1)
  have E2 : Hid _ := x2.eq
  have b2 : Below w.heap.size w w2 := b1.trans (x2.bel.mono b1.size)
  have Y2 : Hid (Ly w w2 w1.heap.size bo 2 d (tx tab) 1) := ⟨b2, ⟨x2.c0, x2.c1⟩, l1.grow x2.bel, HA.out.below b2 (tab_lt HA.out)⟩
  have c2 : Hid _ := HC.out bo d w2 Y2.out.ta Y2.out.l
  obtain ⟨k0, k1⟩ := Y2.out.c
  clear l1 b1 b2 x2 c1 HTx HC HA
  go_wp2_with (first | rw [← E2.out])
  refine Calls.mono (Hid.out c2) ?_; rintro e w3 ⟨⟨co, cc, rfl, ic⟩, b3⟩
  have Y3 : Hid _ := Y2.out.grow b3
  have I3 : Hid (Is w3 co [0, 1, 1]) := ic
  have c3 : Hid _ := HF.out bo d w3 Y3.out.ta Y3.out.l
  clear k0 k1 b3 c2 Y2 E2 ic HF
  generalize w1.heap.size = g at *
  obtain ⟨k0, k1⟩ := Y3.out.c
  go_wp2_with fail
  refine Calls.mono (Hid.out c3) ?_; rintro e w4 ⟨⟨fo, fc, rfl, ic⟩, b4⟩
  have Y4 : Hid _ := Y3.out.grow b4
  have I4 : Hid (Is w4 co [0, 1, 1]) := I3.out.grow b4
  have J4 : Hid (Is w4 fo [0, 1, 2]) := ic
  have c4' : Hid _ := HN.out w4 Y4.out.ta
  clear k0 k1 b4 c3 Y3 ic I3 HN
  go_wp2_with fail
  refine Calls.mono (Hid.out c4') ?_; rintro e w5 ⟨⟨so, sc, rfl⟩, b5⟩
  have Y5 : Hid _ := Y4.out.grow b5
  have I5 : Hid (Is w5 co [0, 1, 1]) := I4.out.grow b5
  have J5 : Hid (Is w5 fo [0, 1, 2]) := J4.out.grow b5
  have c5 : Hid _ := HS.out bo d w5 Y5.out.ta Y5.out.l
  clear b5 c4' Y4 I4 J4 HS
  obtain ⟨k0, k1⟩ := Y5.out.c
  go_wp2_with fail
  refine Calls.mono (Hid.out c5) ?_; rintro e w6 ⟨⟨zo, zc, rfl⟩, b6⟩
  have TT : Hid (Ly w w6 g bo 2 d (tx tab) 1) := Y5.out.grow b6
  have IC : Hid (Is w6 co [0, 1, 1]) := I5.out.grow b6
  have IF : Hid (Is w6 fo [0, 1, 2]) := J5.out.grow b6
  clear k0 k1 b6 c5 Y5 I5 J5
  obtain ⟨k0, k1⟩ := TT.out.c
  go_wp2_with fail
  go_region_held3 (fun w' => w'.cell? ⟨g, 0, none⟩ = some (.slice bo 2 d) ∧ w'.cell? ⟨g, 1, none⟩ = some (.int .i64 1)) (go_keep)
    (first | (go_at_call 18; first | (have hIC := IC.out; clear hIC; (refine Calls.mono (HP.out [0, 1, 1] 3 co _ cc 3 _ rfl (by decide) (Is.grow IC.out (Below.drew (al_below _ _))) (litD3 _ 0 1 1)) ?_); rintro e vk ⟨rfl, bb⟩; have IF2 : Hid (Is vk fo [0, 1, 2]) := Is.grow IF.out (by first | with_reducible exact bb | with_reducible exact al_then bb | exact al_then (undrew bb)); clear IC; have TB : Hid (Ly w vk g bo 2 d (tx tab) 1) := Ly.grow TT.out (by first | with_reducible exact bb | with_reducible exact al_then bb | exact al_then (undrew bb)); clear TT k0 k1; have TT : Hid (Ly w vk g bo 2 d (tx tab) 1) := TB.out; clear TB; obtain ⟨k0, k1⟩ := TT.out.c; clear bb) | ((refine Calls.mono (HP.out [0, 1, 2] 3 fo _ fc 3 _ rfl (by decide) (Is.grow IF2.out (al_below _ _)) (lit3 _ 0 1 2)) ?_); rintro e vk ⟨rfl, bb⟩; clear IF2; have TB : Hid (Ly w vk g bo 2 d (tx tab) 1) := Ly.grow TT.out (by first | with_reducible exact bb | with_reducible exact al_then bb | exact al_then (undrew bb)); clear TT k0 k1; have TT : Hid (Ly w vk g bo 2 d (tx tab) 1) := TB.out; clear TB; obtain ⟨k0, k1⟩ := TT.out.c; clear bb))
           | (go_at_call 28; first | ((with_reducible refine Calls.mono (HOa.out _) ?_); rintro e vk ⟨rfl, bb⟩; have BO : Hid _ := bb; have TB : Hid (Ly w vk g bo 2 d (tx tab) 1) := Ly.grow TT.out (by first | with_reducible exact bb | with_reducible exact al_then bb | exact al_then (undrew bb)); clear TT k0 k1; have TT : Hid (Ly w vk g bo 2 d (tx tab) 1) := TB.out; clear TB; obtain ⟨k0, k1⟩ := TT.out.c; clear bb) | ((with_reducible refine Calls.mono (HOb.out _) ?_); rintro e vk ⟨rfl, bb⟩; have BP : Hid _ := bb; have TB : Hid (Ly w vk g bo 2 d (tx tab) 1) := Ly.grow TT.out (by first | with_reducible exact bb | with_reducible exact al_then bb | exact al_then (undrew bb)); clear TT k0 k1; have TT : Hid (Ly w vk g bo 2 d (tx tab) 1) := TB.out; clear TB; obtain ⟨k0, k1⟩ := TT.out.c; clear bb))
           | (go_at_call 12; (with_reducible refine Calls.mono (HM.out _) ?_); rintro e vk ⟨⟨gm, rfl, lm⟩, bb⟩; have LM : Hid (Lies vk (some ⟨gm, 0, none⟩) 3 (lst [1, 0, 1])) := lm; have BM : Hid _ := bb; have TB : Hid (Ly w vk g bo 2 d (tx tab) 1) := Ly.grow TT.out (by first | with_reducible exact bb | with_reducible exact al_then bb | exact al_then (undrew bb)); clear TT k0 k1; have TT : Hid (Ly w vk g bo 2 d (tx tab) 1) := TB.out; clear TB; obtain ⟨k0, k1⟩ := TT.out.c; clear bb lm)
           | (go_at_call 14; (refine Calls.mono (HPl.out bo d _ (Lf.grow TT.out.l (by first | with_reducible exact Below.refl _ _ | with_reducible exact al_below _ _))) ?_); rintro e vk ⟨⟨gp, rfl, lm⟩, bb⟩; have LP : Hid (Lies vk (some ⟨gp, 0, none⟩) 2 (lst [0, 1])) := lm; have BQ : Hid _ := bb; have TB : Hid (Ly w vk g bo 2 d (tx tab) 1) := Ly.grow TT.out (by first | with_reducible exact bb | with_reducible exact al_then bb | exact al_then (undrew bb)); clear TT k0 k1; have TT : Hid (Ly w vk g bo 2 d (tx tab) 1) := TB.out; clear TB; obtain ⟨k0, k1⟩ := TT.out.c; clear bb lm)
           | (go_at_call 11; first | (have hLM := LM.out; clear hLM; (refine Calls.mono (HSm.out 3 (lst [1, 0, 1]) _ _ _ _ _ (by decide) (by (first | with_reducible exact (show Lies _ (some ⟨gm, 0, none⟩) 3 (lst [1, 0, 1]) from LM.out) | with_reducible exact Lies.below (show Lies vk (some ⟨gm, 0, none⟩) 3 (lst [1, 0, 1]) from LM.out) (al_below _ _) (Nat.le_refl _))) (by (first | with_reducible exact (litW3 _ 1 0 1) | with_reducible exact Lies.below (litW3 _ 1 0 1) BM.out (Nat.le_refl _) | with_reducible exact Lies.below (Lies.below (litW3 _ 1 0 1) BO.out (Nat.le_refl _)) BM.out (Nat.le_refl _)))) ?_); rintro e vk ⟨rfl, bb⟩; clear LM; have TB : Hid (Ly w vk g bo 2 d (tx tab) 1) := Ly.grow TT.out (by first | with_reducible exact bb | with_reducible exact al_then bb | exact al_then (undrew bb)); clear TT k0 k1; have TT : Hid (Ly w vk g bo 2 d (tx tab) 1) := TB.out; clear TB; obtain ⟨k0, k1⟩ := TT.out.c; clear bb) | (have hLP := LP.out; clear hLP; (refine Calls.mono (HSm.out 2 (lst [0, 1]) _ _ _ _ _ (by decide) (by (first | with_reducible exact (show Lies _ (some ⟨gp, 0, none⟩) 2 (lst [0, 1]) from LP.out) | with_reducible exact Lies.below (show Lies vk (some ⟨gp, 0, none⟩) 2 (lst [0, 1]) from LP.out) (al_below _ _) (Nat.le_refl _))) (by (first | with_reducible exact (litW2 _ 0 1) | with_reducible exact Lies.below (litW2 _ 0 1) BQ.out (Nat.le_refl _) | with_reducible exact Lies.below (Lies.below (litW2 _ 0 1) BP.out (Nat.le_refl _)) BQ.out (Nat.le_refl _)))) ?_); rintro e vk ⟨rfl, bb⟩; have TB : Hid (Ly w vk g bo 2 d (tx tab) 1) := Ly.grow TT.out (by first | with_reducible exact bb | with_reducible exact al_then bb | exact al_then (undrew bb)); clear TT k0 k1; have TT : Hid (Ly w vk g bo 2 d (tx tab) 1) := TB.out; clear TB; obtain ⟨k0, k1⟩ := TT.out.c; clear bb)))
  all_goals
    go_wp2_with fail
    go_ret
    exact ⟨rfl, TT.out.bel⟩

theorem kdt : (kd (tx tab) 2).length = 2 := by
  have h1 : kd (tx tab) 1 = [tx tab 0] := by
    rw [kd_out (n := 0) (fr_tx tab 0 (by decide)) rfl]
    rfl
  have h2 : kd (tx tab) 2 = [tx tab 0, tx tab 1] := by
    rw [kd_out (n := 1) (fr_tx tab 1 (by decide)) (by
      rw [h1]
      simp only [List.any_cons, List.any_nil, Bool.or_false]
      refine sm_no 97 (by omega) ?_
      rw [tx_byt tab 0 (by decide), tx_byt tab 1 (by decide)]
      decide), h1]
    rfl
  rw [h2]
  rfl

theorem rgt11 : rgt (tx tab) 2 1 = true := rgt_tx tab 1 (by decide) (by decide) (by decide) (by decide)
theorem se11 : se (tx tab) 2 1 4 4 = 0 := se_ok rgt11 (.inr (by decide))
theorem se11s : se (tx tab) 2 1 4 3 = 50 := se_size rgt11 (by decide) (by decide)
theorem sq11 : sq (tx tab) 2 1 4 4 = 18 := by rw [sq_ok se11, kdt]; decide
theorem se11n (P : Nat → Nat → Bool) (m : Nat) (z : Int) : se P 0 0 m z = 170 := se_form (rgt_no (by omega))

theorem alive11_any (w : World) (hA : Tab w) : Calls Tryd.prog 10 #[] w fun e w' => e = .returned (.bool true) ∧ Below w.heap.size w w' :=
  alive11_core fa7 fb7 (fun w => of_any ⟨#[97]⟩ (by decide) w) (fun w => of_any ⟨#[98]⟩ (by decide) w)
    (fun w => text_any tab 1 w (by decide))
    (fun bo d w hA hl => (counts11_any (tx tab) 2 d bo 1 4 tabbb (by decide) w hA hl).mono (by
      rintro e w' ⟨⟨co, c, rfl, hi⟩, hb⟩
      have e1 : sc (tx tab) 2 1 tabbb 4 = [0, 1, 1] := by rw [sc_ok (show se (tx tab) 2 1 tabbb.size 4 = 0 from se11), qc]
      rw [e1] at hi
      rw [e1, show se (tx tab) 2 1 tabbb.size 4 = 0 from se11, show sq (tx tab) 2 1 tabbb.size 4 = 18 from sq11]
      exact ⟨⟨co, c, rfl, hi⟩, hb⟩))
    (fun bo d w hA hl => (find11_any (tx tab) 2 d bo 1 4 tabbb (by decide) w hA hl).mono (by
      rintro e w' ⟨⟨co, c, rfl, hi⟩, hb⟩
      have e1 : sf (tx tab) 2 1 tabbb 4 = [0, 1, 2] := by rw [sf_ok (show se (tx tab) 2 1 tabbb.size 4 = 0 from se11), qf]
      rw [e1] at hi
      rw [e1, show se (tx tab) 2 1 tabbb.size 4 = 0 from se11, show sq (tx tab) 2 1 tabbb.size 4 = 18 from sq11]
      exact ⟨⟨co, c, rfl, hi⟩, hb⟩))
    (fun w hA => (counts11_any (fun _ _ => false) 0 0 none 0 1 ⟨#[97]⟩ (by decide) w hA ⟨by decide, fun h => by omega⟩).mono (by
      rintro e w' ⟨⟨co, c, rfl, _⟩, hb⟩
      rw [sc_no (by rw [se11n]; decide), sq_no (by rw [se11n]; decide), se11n]
      exact ⟨⟨co, c, rfl⟩, hb⟩))
    (fun bo d w hA hl => (find11_any (tx tab) 2 d bo 1 3 tabbb (by decide) w hA hl).mono (by
      rintro e w' ⟨⟨co, c, rfl, _⟩, hb⟩
      have e0 : se (tx tab) 2 1 tabbb.size 3 = 50 := se11s
      rw [sf_no (by rw [e0]; decide), sq_no (by rw [e0]; decide), e0]
      exact ⟨⟨co, c, rfl⟩, hb⟩))
    (fun w => (marks_any fa7 ⟨#[97, 98, 97]⟩ (by decide) w).mono (by
      rintro e w' ⟨g, rfl, hf, _, _, hb⟩
      refine ⟨⟨g, rfl, fun _ => ⟨g, 0, rfl, hf.congr (fun t ht => ?_)⟩⟩, hb⟩
      match t, ht with
      | 0, _ => unfold km; rw [fa7_at]; decide
      | 1, _ => unfold km; rw [fa7_at]; decide
      | 2, _ => unfold km; rw [fa7_at]; decide))
    (fun bo d w hl => (places11_any (tx tab) fb7 2 d bo 1 (by decide) w hl).mono (by
      rintro e w' ⟨g, rfl, hf, _, _, hb⟩
      refine ⟨⟨g, rfl, fun _ => ⟨g, 0, rfl, hf.congr (fun t ht => ?_)⟩⟩, hb⟩
      match t, ht with
      | 0, _ =>
        unfold kp
        rw [sm_no 97 (by omega) (by rw [tx_byt tab 0 (by decide), fb7_at]; decide)]
        rfl
      | 1, _ =>
        unfold kp
        rw [sm_true (fun x _ => by rw [tx_byt tab 1 (by decide), fb7_at]; rfl)]
        rfl))
    w hA

set_option maxHeartbeats 1000000 in
theorem few11_any (n cap : Nat) (ao : Option Addr) (K : Int) (s : ByteArray) (hs : s.size < 9223372036854775808) (hn : n ≤ 9223372036854775807) (w : World) :
    Calls Tryd.prog 9 #[.agg #[.slice ao n cap, .int .i64 K], .string s] w fun e w' => e = .returned (.bool (decide (n ≤ 100 ∧ s.size ≤ 300))) ∧ Below w.heap.size w w' := by
  obtain ⟨w1, b1⟩ := lbox w (.slice ao n cap) (.int .i64 K)
  have E1 : Hid _ := b1.eq
  have B1 : Hid (Below w.heap.size w w1) := b1.bel
  have c0 := b1.c0
  clear b1
  by_cases h1 : n ≤ 100
  · have h1I : (n : Int) ≤ 100 := by omega
    by_cases h2 : s.size ≤ 300
    · have h2I : (s.size : Int) ≤ 300 := by omega
      have e : Hid (decide (n ≤ 100 ∧ s.size ≤ 300) = true) := decide_eq_true ⟨h1, h2⟩
      go_enter Tryd.func9, Tryd.ntmps9
      go_wp2_with (first | rw [← E1.out])
      go_ret
      exact ⟨by first | rfl | (rw [e.out]; rfl), B1.out⟩
    · have h2I : ¬ (s.size : Int) ≤ 300 := by omega
      have e : Hid (decide (n ≤ 100 ∧ s.size ≤ 300) = false) := decide_eq_false (fun h => h2 h.2)
      go_enter Tryd.func9, Tryd.ntmps9
      go_wp2_with (first | rw [← E1.out])
      go_ret
      exact ⟨by first | rfl | (rw [e.out]; rfl), B1.out⟩
  · have h1I : ¬ (n : Int) ≤ 100 := by omega
    have e : Hid (decide (n ≤ 100 ∧ s.size ≤ 300) = false) := decide_eq_false (fun h => h1 h.1)
    go_enter Tryd.func9, Tryd.ntmps9
    go_wp2_with (first | rw [← E1.out])
    go_ret
    exact ⟨by first | rfl | (rw [e.out]; rfl), B1.out⟩

end Cls
end Go.Proofs.YtppmmobmoanagaaDoor
