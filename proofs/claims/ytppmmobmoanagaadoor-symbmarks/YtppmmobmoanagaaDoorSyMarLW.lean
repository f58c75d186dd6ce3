/- The walk of 'beaglelaw11.SymbMarks': it answers true; nothing that was there is turned. For the statement's proof. -/
import Derived.OpenShut
import Derived.ProofKit
import Derived.Test.YtppmmobmoanagaaDoorSyAl
namespace Go.Proofs.YtppmmobmoanagaaDoor.symbMarks
open Go.ChangeShapes Go.WideShapes Go.ChangeAt Go.RowKit Cls
set_option linter.unusedVariables false

/-- A leaf in a box, a class in another one, and the table of primes. -/
structure Lyc (w wk : World) (g gc : Nat) (ao : Option Addr) (n cap : Nat) (P : Nat → Nat → Bool) (K : Int) (c : Nat → Bool) : Prop where
  o : Ly w wk g ao n cap P K
  f : Fam wk gc 0 4 (wi c)

theorem Lyc.grow {w wk w' : World} {g gc : Nat} {ao : Option Addr} {n cap : Nat} {P : Nat → Nat → Bool} {K : Int} {c : Nat → Bool} (h : Lyc w wk g gc ao n cap P K c) (b : Below wk.heap.size wk w') : Lyc w w' g gc ao n cap P K c :=
  ⟨h.o.grow b, h.f.below b (h.f.lt (by omega))⟩

set_option maxRecDepth 4000 in
set_option maxHeartbeats 4000000 in
theorem walk (ao : Option Addr) (n cap : Nat) (P : Nat → Nat → Bool) (K : Int) (t : ByteArray) (f : Nat → Bool) (w : World) (hp : Lp w ao n P) (ht : t.size ≤ maxLen) (hA : Tab w) :
    Calls Tryd.prog 3 #[.agg #[.slice ao n cap, .int .i64 K], .string t, .agg #[.int .u64 ((wd (f) 0 : Nat) : Int), .int .u64 ((wd (f) 1 : Nat) : Int), .int .u64 ((wd (f) 2 : Nat) : Int), .int .u64 ((wd (f) 3 : Nat) : Int)]] w fun e w' => e = .returned (.bool true) ∧ Below w.heap.size w w' := by
  obtain ⟨w0, b0⟩ := lbox w (.slice ao n cap) (.int .i64 K)
  obtain ⟨w1, b1⟩ := box w0 f
  have E0 : Hid _ := b0.eq
  have E1 : Hid _ := b1.eq
  have HS : Hid (w.heap.size + 1 = w0.heap.size) := b0.size.symm
  have s0 : w.heap.size < w0.heap.size := by have := b0.size; omega
  have B1 : Hid (Below w.heap.size w w1) := b0.bel.trans (b1.bel.mono b0.bel.size)
  have A1 : Hid (Tab w1) := hA.below B1.out (tab_lt hA)
  have FC : Fam w1 w0.heap.size 0 4 (wi f) := b1.fam
  have hc := two_below ⟨b0.c0, b0.c1⟩ b1.bel s0
  obtain ⟨c0, c1⟩ := hc
  have CA : Hid _ := fun (v : World) (hu : Tab v) => alive11_any v hu
  unfold maxLen at ht
  have hsm := hp.small
  have CF : Hid _ := few11_any n cap ao K t (by omega) hsm w1
  by_cases hn : n ≤ 100 ∧ t.size ≤ 300
  · rw [decide_eq_true hn] at CF
    obtain ⟨hn1, hn2⟩ := hn
    have TT : Hid (Lyc w w1 w.heap.size w0.heap.size ao n cap P K f) := ⟨⟨B1.out, ⟨c0, c1⟩, (hp.grow B1.out).lf hn1, A1.out⟩, FC⟩
    have CM : Hid (∀ v : World, Calls Tryd.prog 12 #[.string t, .agg #[.int .u64 ((wd (f) 0 : Nat) : Int), .int .u64 ((wd (f) 1 : Nat) : Int), .int .u64 ((wd (f) 2 : Nat) : Int), .int .u64 ((wd (f) 3 : Nat) : Int)]] v fun e w' => (∃ xo xc, e = .returned (.slice xo t.size xc) ∧ Lies w' xo t.size (km t f)) ∧ Below v.heap.size v w') := fun v => (marks_any f t (by omega) v).mono (by rintro e w' ⟨g, rfl, hf, _, _, hb⟩; exact ⟨⟨_, _, rfl, fun _ => ⟨g, 0, rfl, hf⟩⟩, hb⟩)
    have CN : Hid (∀ v : World, Calls Tryd.prog 13 #[.string t, .agg #[.int .u64 ((wd (f) 0 : Nat) : Int), .int .u64 ((wd (f) 1 : Nat) : Int), .int .u64 ((wd (f) 2 : Nat) : Int), .int .u64 ((wd (f) 3 : Nat) : Int)]] v fun e w' => (∃ xo xc, e = .returned (.slice xo t.size xc) ∧ Lies w' xo t.size (km t f)) ∧ Below v.heap.size v w') := fun v => refMarks_any f t (by omega) v
    have CP : Hid (∀ v : World, Lf v ao n P → Calls Tryd.prog 14 #[.agg #[.slice ao n cap, .int .i64 K], .agg #[.int .u64 ((wd (f) 0 : Nat) : Int), .int .u64 ((wd (f) 1 : Nat) : Int), .int .u64 ((wd (f) 2 : Nat) : Int), .int .u64 ((wd (f) 3 : Nat) : Int)]] v fun e w' => (∃ xo xc, e = .returned (.slice xo n xc) ∧ Lies w' xo n (kp P f)) ∧ Below v.heap.size v w') := fun v hl => (places11_any P f n cap ao K (by omega) v hl).mono (by rintro e w' ⟨g, rfl, hf, _, _, hb⟩; exact ⟨⟨_, _, rfl, fun _ => ⟨g, 0, rfl, hf⟩⟩, hb⟩)
    have CQ : Hid (∀ v : World, Lf v ao n P → Calls Tryd.prog 15 #[.agg #[.slice ao n cap, .int .i64 K], .agg #[.int .u64 ((wd (f) 0 : Nat) : Int), .int .u64 ((wd (f) 1 : Nat) : Int), .int .u64 ((wd (f) 2 : Nat) : Int), .int .u64 ((wd (f) 3 : Nat) : Int)]] v fun e w' => (∃ xo xc, e = .returned (.slice xo n xc) ∧ Lies w' xo n (kp P f)) ∧ Below v.heap.size v w') := fun v hl => refPlaces11_any P f n cap ao K (by omega) v hl
    have CE : Hid (∀ (N : Nat) (F : Nat → Int) (ao bo : Option Addr) (ca cb : Nat) (w : World), N ≤ 1000001 → Lies w ao N F → Lies w bo N F → Calls Tryd.prog 11 #[.slice ao N ca, .slice bo N cb] w fun e w' => e = .returned (.bool true) ∧ Below w.heap.size w w') := fun N F ao bo ca cb w hN h1 h2 => same_rows N hN F ao bo ca cb w h1 h2
    clear b0 b1 hA hp A1 B1 FC
    go_enter Tryd.func3, Tryd.ntmps3
    go_wp2_with (first | rw [← E0.out, ← E1.out, HS.out])
    refine Calls.mono (Hid.out CF) ?_; rintro e w2 ⟨rfl, b2⟩
    have TB : Hid (Lyc w w2 w.heap.size w0.heap.size ao n cap P K f) := Lyc.grow TT.out b2
    clear b2 TT CF c0 c1 E0 E1 HS
    have TT : Hid (Lyc w w2 w.heap.size w0.heap.size ao n cap P K f) := TB.out
    clear TB
    obtain ⟨c0, c1⟩ := TT.out.o.c
    obtain ⟨a0, a1, a2, a3⟩ := c4 TT.out.f
    go_wp2_with fail
    go_region_held3 (fun w' => w'.cell? ⟨w.heap.size, 0, none⟩ = some (.slice ao n cap) ∧ w'.cell? ⟨w.heap.size, 1, none⟩ = some (.int .i64 K) ∧ w'.cell? ⟨w0.heap.size, 0, none⟩ = some (.int .u64 ((wd f 0 : Nat) : Int)) ∧ w'.cell? ⟨w0.heap.size, 1, none⟩ = some (.int .u64 ((wd f 1 : Nat) : Int)) ∧ w'.cell? ⟨w0.heap.size, 2, none⟩ = some (.int .u64 ((wd f 2 : Nat) : Int)) ∧ w'.cell? ⟨w0.heap.size, 3, none⟩ = some (.int .u64 ((wd f 3 : Nat) : Int))) (go_keep)
      (first | (go_at_call 10; (refine Calls.mono (CA.out _ TT.out.o.ta) ?_); rintro e vk ⟨rfl, bb⟩;  have TB : Hid (Lyc w vk w.heap.size w0.heap.size ao n cap P K f) := Lyc.grow TT.out (by first | with_reducible exact bb | exact undrew bb); clear bb TT c0 c1 a0 a1 a2 a3; have TT : Hid (Lyc w vk w.heap.size w0.heap.size ao n cap P K f) := TB.out; clear TB; obtain ⟨c0, c1⟩ := TT.out.o.c; obtain ⟨a0, a1, a2, a3⟩ := c4 TT.out.f)
             | (go_at_call 12; (refine Calls.mono (CM.out _) ?_); rintro e vk ⟨⟨xo, xc, rfl, lx⟩, bb⟩; have LX : Hid (Lies vk xo t.size (km t f)) := lx; clear lx; have TB : Hid (Lyc w vk w.heap.size w0.heap.size ao n cap P K f) := Lyc.grow TT.out (by first | with_reducible exact bb | exact undrew bb); clear bb TT c0 c1 a0 a1 a2 a3; have TT : Hid (Lyc w vk w.heap.size w0.heap.size ao n cap P K f) := TB.out; clear TB; obtain ⟨c0, c1⟩ := TT.out.o.c; obtain ⟨a0, a1, a2, a3⟩ := c4 TT.out.f)
             | (go_at_call 13; (refine Calls.mono (CN.out _) ?_); rintro e vk ⟨⟨yo, yc, rfl, ly⟩, bb⟩; have LY : Hid (Lies vk yo t.size (km t f)) := ly; have LX2 : Hid (Lies vk xo t.size (km t f)) := Lies.below LX.out (by first | with_reducible exact bb | exact undrew bb) (Nat.le_refl _); clear ly LX; have TB : Hid (Lyc w vk w.heap.size w0.heap.size ao n cap P K f) := Lyc.grow TT.out (by first | with_reducible exact bb | exact undrew bb); clear bb TT c0 c1 a0 a1 a2 a3; have TT : Hid (Lyc w vk w.heap.size w0.heap.size ao n cap P K f) := TB.out; clear TB; obtain ⟨c0, c1⟩ := TT.out.o.c; obtain ⟨a0, a1, a2, a3⟩ := c4 TT.out.f)
             | (go_at_call 14; (refine Calls.mono (CP.out _ TT.out.o.l) ?_); rintro e vk ⟨⟨uo, uc, rfl, lx⟩, bb⟩; have LU : Hid (Lies vk uo n (kp P f)) := lx; clear lx; have TB : Hid (Lyc w vk w.heap.size w0.heap.size ao n cap P K f) := Lyc.grow TT.out (by first | with_reducible exact bb | exact undrew bb); clear bb TT c0 c1 a0 a1 a2 a3; have TT : Hid (Lyc w vk w.heap.size w0.heap.size ao n cap P K f) := TB.out; clear TB; obtain ⟨c0, c1⟩ := TT.out.o.c; obtain ⟨a0, a1, a2, a3⟩ := c4 TT.out.f)
             | (go_at_call 15; (refine Calls.mono (CQ.out _ TT.out.o.l) ?_); rintro e vk ⟨⟨vo, vc, rfl, ly⟩, bb⟩; have LV : Hid (Lies vk vo n (kp P f)) := ly; have LU2 : Hid (Lies vk uo n (kp P f)) := Lies.below LU.out (by first | with_reducible exact bb | exact undrew bb) (Nat.le_refl _); clear ly LU; have TB : Hid (Lyc w vk w.heap.size w0.heap.size ao n cap P K f) := Lyc.grow TT.out (by first | with_reducible exact bb | exact undrew bb); clear bb TT c0 c1 a0 a1 a2 a3; have TT : Hid (Lyc w vk w.heap.size w0.heap.size ao n cap P K f) := TB.out; clear TB; obtain ⟨c0, c1⟩ := TT.out.o.c; obtain ⟨a0, a1, a2, a3⟩ := c4 TT.out.f)
             | (go_at_call 11; first | (have h0 := LX2.out; clear h0; (refine Calls.mono (CE.out t.size (km t f) xo yo xc yc _ (by omega) LX2.out LY.out) ?_); rintro e vk ⟨rfl, bb⟩; clear LX2 LY;  have TB : Hid (Lyc w vk w.heap.size w0.heap.size ao n cap P K f) := Lyc.grow TT.out (by first | with_reducible exact bb | exact undrew bb); clear bb TT c0 c1 a0 a1 a2 a3; have TT : Hid (Lyc w vk w.heap.size w0.heap.size ao n cap P K f) := TB.out; clear TB; obtain ⟨c0, c1⟩ := TT.out.o.c; obtain ⟨a0, a1, a2, a3⟩ := c4 TT.out.f) | (have h0 := LU2.out; clear h0; (refine Calls.mono (CE.out n (kp P f) uo vo uc vc _ (by omega) LU2.out LV.out) ?_); rintro e vk ⟨rfl, bb⟩; clear LU2 LV;  have TB : Hid (Lyc w vk w.heap.size w0.heap.size ao n cap P K f) := Lyc.grow TT.out (by first | with_reducible exact bb | exact undrew bb); clear bb TT c0 c1 a0 a1 a2 a3; have TT : Hid (Lyc w vk w.heap.size w0.heap.size ao n cap P K f) := TB.out; clear TB; obtain ⟨c0, c1⟩ := TT.out.o.c; obtain ⟨a0, a1, a2, a3⟩ := c4 TT.out.f)))
    go_wp2_with fail
    go_ret
    exact ⟨rfl, TT.out.o.bel⟩
  · rw [decide_eq_false hn] at CF
    clear hn b0 b1 hA hp FC
    go_enter Tryd.func3, Tryd.ntmps3
    go_wp2_with (first | rw [← E0.out, ← E1.out, HS.out])
    refine Calls.mono (Hid.out CF) ?_; rintro e w2 ⟨rfl, b2⟩
    have B2 : Hid (Below w.heap.size w w2) := B1.out.trans (b2.mono B1.out.size)
    have CA2 : Hid _ := CA.out w2 (A1.out.below b2 (tab_lt A1.out))
    clear b2 CA c0 c1 E0 E1 HS CF
    go_wp2_with fail
    refine Calls.mono (Hid.out CA2) ?_; rintro e w3 ⟨rfl, b3⟩
    have B3 : Hid (Below w.heap.size w w3) := B2.out.trans (b3.mono B2.out.size)
    clear b3 CA2
    go_wp2_with fail
    go_ret
    exact ⟨rfl, B3.out⟩

end Go.Proofs.YtppmmobmoanagaaDoor.symbMarks
