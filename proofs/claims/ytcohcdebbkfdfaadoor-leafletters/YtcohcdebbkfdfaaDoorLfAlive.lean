/- Contract of beaglelaw07.alive: it tells true; nothing that was there turns. -/
import Derived.Test.YtcohcdebbkfdfaaDoorLfAl
namespace Go.Proofs.YtcohcdebbkfdfaaDoor
open Go.RowKit
namespace Cls

set_option maxRecDepth 4000 in
set_option maxHeartbeats 8000000 in
theorem alive_core (fa fb fF fab : Nat → Bool)
    (hOfA : ∀ w : World, Calls Tryd.prog 31 #[.string ⟨#[97]⟩] w fun e w' => e = .returned (.agg #[.int .u64 ((wd (fa) 0 : Nat) : Int), .int .u64 ((wd (fa) 1 : Nat) : Int), .int .u64 ((wd (fa) 2 : Nat) : Int), .int .u64 ((wd (fa) 3 : Nat) : Int)]) ∧ Below w.heap.size w w')
    (hOfB : ∀ w : World, Calls Tryd.prog 31 #[.string ⟨#[98]⟩] w fun e w' => e = .returned (.agg #[.int .u64 ((wd (fb) 0 : Nat) : Int), .int .u64 ((wd (fb) 1 : Nat) : Int), .int .u64 ((wd (fb) 2 : Nat) : Int), .int .u64 ((wd (fb) 3 : Nat) : Int)]) ∧ Below w.heap.size w w')
    (hF : ∀ w : World, Calls Tryd.prog 30 #[] w fun e w' => e = .returned (.agg #[.int .u64 ((wd (fF) 0 : Nat) : Int), .int .u64 ((wd (fF) 1 : Nat) : Int), .int .u64 ((wd (fF) 2 : Nat) : Int), .int .u64 ((wd (fF) 3 : Nat) : Int)]) ∧ Below w.heap.size w w')
    (hTx : ∀ (K : Int) (w : World), Calls Tryd.prog 17 #[.string ⟨#[120, 121, 122]⟩, .int .i64 K] w fun e w' => (∃ bo d, e = .returned (.agg #[.slice bo 3 d, .int .i64 K]) ∧ Lf w' bo 3 (tx ⟨#[120, 121, 122]⟩)) ∧ Below w.heap.size w w')
    (hLt : ∀ (bo : Option Addr) (d : Nat) (w : World), TabB w → Lf w bo 3 (tx ⟨#[120, 121, 122]⟩) → Calls Tryd.prog 18 #[.agg #[.slice bo 3 d, .int .i64 0]] w fun e w' => e = .returned (.tuple #[.string ⟨#[120, 121, 122]⟩, .bool true]) ∧ Below w.heap.size w w')
    (hLl : ∀ (gs : Nat) (w : World), TabB w → Lf w (some ⟨gs, 0, none⟩) 4 (pal fa fF fb) → Calls Tryd.prog 18 #[.agg #[.slice (some ⟨gs, 0, none⟩) 4 4, .int .i64 1]] w fun e w' => e = .returned (.tuple #[.string ⟨#[]⟩, .bool false]) ∧ Below w.heap.size w w')
    (hKd : ∀ (gs : Nat) (w : World), Lf w (some ⟨gs, 0, none⟩) 4 (pal fa fF fb) → Calls Tryd.prog 24 #[.agg #[.slice (some ⟨gs, 0, none⟩) 4 4, .int .i64 1]] w fun e w' => (∃ g d, e = .returned (.slice (some ⟨g, 0, none⟩) 2 d) ∧ Fam w' g 0 4 (wi fa) ∧ Fam w' g 4 4 (wi fb)) ∧ Below w.heap.size w w')
    (hWh : ∀ (gs : Nat) (w : World), Lf w (some ⟨gs, 0, none⟩) 4 (pal fa fF fb) → Calls Tryd.prog 27 #[.agg #[.slice (some ⟨gs, 0, none⟩) 4 4, .int .i64 1], .agg #[.int .u64 ((wd (fa) 0 : Nat) : Int), .int .u64 ((wd (fa) 1 : Nat) : Int), .int .u64 ((wd (fa) 2 : Nat) : Int), .int .u64 ((wd (fa) 3 : Nat) : Int)]] w fun e w' => (∃ g d, e = .returned (.slice (some ⟨g, 0, none⟩) 2 d) ∧ w'.cell? ⟨g, 1, none⟩ = some (.int .i64 3)) ∧ Below w.heap.size w w')
    (hRl : ∀ (gs : Nat) (w : World), Lf w (some ⟨gs, 0, none⟩) 4 (pal fa fF fb) → Calls Tryd.prog 11 #[.agg #[.slice (some ⟨gs, 0, none⟩) 4 4, .int .i64 1]] w fun e w' => e = .returned (.bool true) ∧ Below w.heap.size w w')
    (hR0 : ∀ w : World, Calls Tryd.prog 11 #[.agg #[.slice none 0 0, .int .i64 0]] w fun e w' => e = .returned (.bool false) ∧ Below w.heap.size w w')
    (hPl : ∀ (gs : Nat) (w : World), TabB w → Lf w (some ⟨gs, 0, none⟩) 4 (pal fa fF fb) → Calls Tryd.prog 13 #[.agg #[.slice (some ⟨gs, 0, none⟩) 4 4, .int .i64 1]] w fun e w' => e = .returned (.bool true) ∧ Below w.heap.size w w')
    (hOab : ∀ w : World, Calls Tryd.prog 31 #[.string ⟨#[97, 98]⟩] w fun e w' => e = .returned (.agg #[.int .u64 ((wd (fab) 0 : Nat) : Int), .int .u64 ((wd (fab) 1 : Nat) : Int), .int .u64 ((wd (fab) 2 : Nat) : Int), .int .u64 ((wd (fab) 3 : Nat) : Int)]) ∧ Below w.heap.size w w')
    (hPn : ∀ v : World, TabB v → Calls Tryd.prog 13 #[.agg #[.slice (some ⟨v.heap.size, 0, none⟩) 1 1, .int .i64 0]] (v.alloc (.cells #[.int .u64 ((wd (fab) 0 : Nat) : Int), .int .u64 ((wd (fab) 1 : Nat) : Int), .int .u64 ((wd (fab) 2 : Nat) : Int), .int .u64 ((wd (fab) 3 : Nat) : Int)] 35)) fun e w' => e = .returned (.bool false) ∧ Below v.heap.size v w')
    (hBl : ∀ (gs : Nat) (w : World), Lf w (some ⟨gs, 0, none⟩) 4 (pal fa fF fb) → Calls Tryd.prog 15 #[.agg #[.slice (some ⟨gs, 0, none⟩) 4 4, .int .i64 1]] w fun e w' => e = .returned (.int .i64 3) ∧ Below w.heap.size w w')
    (hSl : ∀ (gs : Nat) (w : World), Lf w (some ⟨gs, 0, none⟩) 4 (pal fa fF fb) → Calls Tryd.prog 22 #[.agg #[.slice (some ⟨gs, 0, none⟩) 4 4, .int .i64 1], .agg #[.slice (some ⟨gs, 0, none⟩) 4 4, .int .i64 1]] w fun e w' => e = .returned (.bool true) ∧ Below w.heap.size w w')
    (hSx : ∀ (gs : Nat) (bo : Option Addr) (d : Nat) (w : World), Lf w (some ⟨gs, 0, none⟩) 4 (pal fa fF fb) → Lf w bo 3 (tx ⟨#[120, 121, 122]⟩) → Calls Tryd.prog 22 #[.agg #[.slice (some ⟨gs, 0, none⟩) 4 4, .int .i64 1], .agg #[.slice bo 3 d, .int .i64 1]] w fun e w' => e = .returned (.bool false) ∧ Below w.heap.size w w')
    (qa : sm fa fa = true) (qb : sm fb fb = true)
    (w : World) (hT : TabB w) : Calls Tryd.prog 10 #[] w fun e w' => e = .returned (.bool true) ∧ Below w.heap.size w w' := by
  have HOfA : Hid _ := hOfA
  have HOfB : Hid _ := hOfB
  have HF : Hid _ := hF
  have HT : Hid _ := hT
  have HTx : Hid _ := hTx
  have HLt : Hid _ := hLt
  have HLl : Hid _ := hLl
  have HKd : Hid _ := hKd
  have HWh : Hid _ := hWh
  have HRl : Hid _ := hRl
  have HR0 : Hid _ := hR0
  have HPl : Hid _ := hPl
  have HOab : Hid _ := hOab
  have HPn : Hid _ := hPn
  have HBl : Hid _ := hBl
  have HSl : Hid _ := hSl
  have HSx : Hid _ := hSx
  have HQ : Hid (sm fa fa = true ∧ sm fb fb = true) := ⟨qa, qb⟩
  clear hOfA hOfB hF hT hTx hLt hLl hKd hWh hRl hR0 hPl hOab hPn hBl hSl hSx qa qb
  have c1 : Hid _ := HOfA.out w
  go_enter Tryd.func10, Tryd.ntmps10
  go_wp2_with fail
  refine Calls.mono (Hid.out c1) ?_; rintro e w1 ⟨rfl, b1⟩
  have c2 : Hid _ := HOfB.out w1
  go_wp2_with fail
  refine Calls.mono (Hid.out c2) ?_; rintro e w2 ⟨rfl, b2⟩
  obtain ⟨w3, x3⟩ := box w2 fa
  obtain ⟨w4, x4⟩ := box w3 fb
  have E3 : Hid _ := x3.eq
  have E4 : Hid _ := x4.eq
  have HS : Hid (w2.heap.size + 1 = w3.heap.size) := x3.size.symm
  have TT : Hid (A2 w w4 w2.heap.size w3.heap.size fa fb) := ⟨(b1.trans (b2.mono b1.size)).trans ((x3.bel.trans (x4.bel.mono x3.bel.size)).mono (Nat.le_trans b1.size b2.size)), x3.fam.below x4.bel (x3.fam.lt (by omega)), x4.fam, (((TabB.grow HT.out b1).grow b2).grow x3.bel).grow x4.bel⟩
  have hab : w2.heap.size < w3.heap.size := by have := x3.size; omega
  have hwa : w.heap.size ≤ w2.heap.size := Nat.le_trans b1.size b2.size
  have hgt : 0 < w.heap.size := tabB_lt HT.out
  clear c1 c2 b1 b2 x3 x4
  go_wp2_with fail
  rw [← E3.out, ← E4.out, HS.out]
  clear E3 E4 HS HT
  generalize w2.heap.size = ga at *
  generalize w3.heap.size = gb at *
  obtain ⟨a0, a1, a2, a3⟩ := c4 TT.out.a
  obtain ⟨r0, r1, r2, r3⟩ := c4 TT.out.b
  have lb : gb < w4.heap.size := Fam.lt TT.out.b (by omega)
  have la : ga < w4.heap.size := Fam.lt TT.out.a (by omega)
  have ne1 : ¬ ga = w4.heap.size := by omega
  have ne2 : ¬ gb = w4.heap.size := by omega
  have ne3 : ¬ w4.heap.size = ga := by omega
  have ne4 : ¬ w4.heap.size = gb := by omega
  go_cut [3] (fun v3 wc => ∃ g gs : Nat, v3 = .pointer (some ⟨g, 0, none⟩) ∧ A3 w wc ga gb g gs fa fF fb)
  case first =>
    go_region_held3 (fun w' => w'.cell? ⟨ga, 0, none⟩ = some (.int .u64 ((wd fa 0 : Nat) : Int)) ∧ w'.cell? ⟨ga, 1, none⟩ = some (.int .u64 ((wd fa 1 : Nat) : Int)) ∧ w'.cell? ⟨ga, 2, none⟩ = some (.int .u64 ((wd fa 2 : Nat) : Int)) ∧ w'.cell? ⟨ga, 3, none⟩ = some (.int .u64 ((wd fa 3 : Nat) : Int)) ∧ w'.cell? ⟨gb, 0, none⟩ = some (.int .u64 ((wd fb 0 : Nat) : Int)) ∧ w'.cell? ⟨gb, 1, none⟩ = some (.int .u64 ((wd fb 1 : Nat) : Int)) ∧ w'.cell? ⟨gb, 2, none⟩ = some (.int .u64 ((wd fb 2 : Nat) : Int)) ∧ w'.cell? ⟨gb, 3, none⟩ = some (.int .u64 ((wd fb 3 : Nat) : Int))) (go_keep)
      (first
      | (go_at_call 30; (with_reducible refine Calls.mono (HF.out w4.drew) ?_); rintro e vk ⟨rfl, bb⟩; have TB : Hid (A2 w vk ga gb fa fb) := A2.grow TT.out (undrew bb); clear bb TT a0 a1 a2 a3 r0 r1 r2 r3 la lb; have TT : Hid (A2 w vk ga gb fa fb) := TB.out; clear TB; obtain ⟨a0, a1, a2, a3⟩ := c4 TT.out.a; obtain ⟨r0, r1, r2, r3⟩ := c4 TT.out.b; have lb : gb < vk.heap.size := Fam.lt TT.out.b (by omega); have la : ga < vk.heap.size := Fam.lt TT.out.a (by omega); have ne5 : ¬ ga = vk.heap.size := (by omega); have ne6 : ¬ gb = vk.heap.size := (by omega); have ne7 : ¬ vk.heap.size = ga := (by omega); have ne8 : ¬ vk.heap.size = gb := (by omega))
      | (go_at_call 30; (with_reducible refine Calls.mono (HF.out (w4.alloc (.cells #[.slice none 0 0, .int .i64 0] 24)).drew) ?_); rintro e vk ⟨rfl, bb⟩; have ZZ : Hid (Zl vk gb w4.heap.size) := zl_new (v := w4) (undrew bb) lb; have TB : Hid (A2 w vk ga gb fa fb) := A2.grow TT.out (unalloc' (v := w4) (undrew bb)); clear bb TT a0 a1 a2 a3 r0 r1 r2 r3 la lb; have TT : Hid (A2 w vk ga gb fa fb) := TB.out; clear TB; obtain ⟨a0, a1, a2, a3⟩ := c4 TT.out.a; obtain ⟨r0, r1, r2, r3⟩ := c4 TT.out.b; obtain ⟨⟨z0, z1⟩, zw, zl, zs⟩ := ZZ.out; have y0 := Wrt.zero zw 0 (by omega); have y1 := Wrt.zero zw 1 (by omega); clear zw; have lb : gb < vk.heap.size := Fam.lt TT.out.b (by omega); have la : ga < vk.heap.size := Fam.lt TT.out.a (by omega); have ne5 : ¬ ga = vk.heap.size := (by omega); have ne6 : ¬ gb = vk.heap.size := (by omega); have ne7 : ¬ vk.heap.size = ga := (by omega); have ne8 : ¬ vk.heap.size = gb := (by omega)))
    all_goals
      go_wp2_with fail
      go_meet
      first
        | exact ⟨_, _, rfl, a3_c TT.out⟩
        | exact ⟨_, _, rfl, a3_b TT.out⟩
        | exact ⟨_, _, rfl, a3_a TT.out ZZ.out hab hwa hgt⟩
  case rest =>
    obtain ⟨g, gs, rfl, hA⟩ := hcut
    have AA : Hid (A3 w wc ga gb g gs fa fF fb) := hA
    clear hA TT a0 a1 a2 a3 r0 r1 r2 r3 la lb ne1 ne2 ne3 ne4
    have c1 : Hid _ := HTx.out 0 wc
    go_wp2_with fail
    refine Calls.mono (Hid.out c1) ?_; rintro e w5 ⟨⟨bo, d, rfl, hx⟩, b5⟩
    have A5 : Hid (A3 w w5 ga gb g gs fa fF fb) := A3.grow AA.out b5
    have c2 : Hid _ := HLt.out bo d w5 A5.out.two.tab hx
    clear hx b5 AA c1
    go_wp2_with fail
    refine Calls.mono (Hid.out c2) ?_; rintro e w6 ⟨rfl, b6⟩
    have A6 : Hid (A3 w w6 ga gb g gs fa fF fb) := A3.grow A5.out b6
    have c3 : Hid _ := HLl.out gs w6 A6.out.two.tab A6.out.l
    obtain ⟨q0, q1⟩ := A6.out.c
    clear b6 A5 c2
    go_wp2_with fail
    refine Calls.mono (Hid.out c3) ?_; rintro e w7 ⟨rfl, b7⟩
    have A7 : Hid (A3 w w7 ga gb g gs fa fF fb) := A3.grow A6.out b7
    clear b7 A6 c3 q0 q1
    obtain ⟨q0, q1⟩ := A7.out.c
    obtain ⟨a0, a1, a2, a3⟩ := c4 A7.out.two.a
    go_wp2_with fail
    go_region_held3 (fun w' => w'.cell? ⟨g, 0, none⟩ = some (.slice (some ⟨gs, 0, none⟩) 4 4) ∧ w'.cell? ⟨g, 1, none⟩ = some (.int .i64 1) ∧ w'.cell? ⟨ga, 0, none⟩ = some (.int .u64 ((wd fa 0 : Nat) : Int)) ∧ w'.cell? ⟨ga, 1, none⟩ = some (.int .u64 ((wd fa 1 : Nat) : Int)) ∧ w'.cell? ⟨ga, 2, none⟩ = some (.int .u64 ((wd fa 2 : Nat) : Int)) ∧ w'.cell? ⟨ga, 3, none⟩ = some (.int .u64 ((wd fa 3 : Nat) : Int))) (go_keep)
      (first
      | (go_at_call 24; (refine Calls.mono (HKd.out gs _ (Lf.drewN A7.out.l 1)) ?_); rintro e w8 ⟨⟨gk, dk, rfl, hk1, hk2⟩, bb⟩; have A8 : Hid (A3 w w8 ga gb g gs fa fF fb) := A3.grow A7.out (undrew bb); have K8 : Hid (Fam w8 gk 0 4 (wi fa) ∧ Fam w8 gk 4 4 (wi fb)) := ⟨hk1, hk2⟩; clear bb hk1 hk2 q0 q1 a0 a1 a2 a3; obtain ⟨q0, q1⟩ := A8.out.c; obtain ⟨a0, a1, a2, a3⟩ := c4 A8.out.two.a)
      | (go_at_call 27; (refine Calls.mono (HWh.out gs _ A8.out.l) ?_); rintro e w9 ⟨⟨gw, dw, rfl, hw1⟩, bb⟩; have A9 : Hid (A3 w w9 ga gb g gs fa fF fb) := A3.grow A8.out bb; have K9 : Hid (Fam w9 gk 0 4 (wi fa) ∧ Fam w9 gk 4 4 (wi fb)) := ⟨Fam.below K8.out.1 bb (Fam.lt K8.out.1 (by omega)), Fam.below K8.out.2 bb (Fam.lt K8.out.2 (by omega))⟩; have W9 : Hid (w9.cell? ⟨gw, 1, none⟩ = some (.int .i64 3)) := hw1; clear bb hw1 q0 q1 a0 a1 a2 a3; obtain ⟨q0, q1⟩ := A9.out.c; obtain ⟨a0, a1, a2, a3⟩ := c4 A9.out.two.a))
    have TT : Hid (A4 w w9 ga gb g gs gk gw fa fF fb) := ⟨A9.out, K9.out.1, K9.out.2, W9.out⟩
    clear A7 A8 K8 A9 K9 W9
    obtain ⟨r0, r1, r2, r3⟩ := c4 TT.out.a.two.b
    obtain ⟨k0, k1, k2, k3⟩ := c4 TT.out.k
    obtain ⟨k4, k5, k6, k7⟩ := c44 TT.out.l
    have hw1 := TT.out.w
    obtain ⟨qa, qb⟩ := HQ.out
    go_wp2_with fail
    dsimp only [List.append]
    go_region_held3 (fun w' => w'.cell? ⟨g, 0, none⟩ = some (.slice (some ⟨gs, 0, none⟩) 4 4) ∧ w'.cell? ⟨g, 1, none⟩ = some (.int .i64 1) ∧ w'.cell? ⟨ga, 0, none⟩ = some (.int .u64 ((wd fa 0 : Nat) : Int)) ∧ w'.cell? ⟨ga, 1, none⟩ = some (.int .u64 ((wd fa 1 : Nat) : Int)) ∧ w'.cell? ⟨ga, 2, none⟩ = some (.int .u64 ((wd fa 2 : Nat) : Int)) ∧ w'.cell? ⟨ga, 3, none⟩ = some (.int .u64 ((wd fa 3 : Nat) : Int)) ∧ w'.cell? ⟨gb, 0, none⟩ = some (.int .u64 ((wd fb 0 : Nat) : Int)) ∧ w'.cell? ⟨gb, 1, none⟩ = some (.int .u64 ((wd fb 1 : Nat) : Int)) ∧ w'.cell? ⟨gb, 2, none⟩ = some (.int .u64 ((wd fb 2 : Nat) : Int)) ∧ w'.cell? ⟨gb, 3, none⟩ = some (.int .u64 ((wd fb 3 : Nat) : Int)) ∧ w'.cell? ⟨gk, 0, none⟩ = some (.int .u64 ((wd fa 0 : Nat) : Int)) ∧ w'.cell? ⟨gk, 1, none⟩ = some (.int .u64 ((wd fa 1 : Nat) : Int)) ∧ w'.cell? ⟨gk, 2, none⟩ = some (.int .u64 ((wd fa 2 : Nat) : Int)) ∧ w'.cell? ⟨gk, 3, none⟩ = some (.int .u64 ((wd fa 3 : Nat) : Int)) ∧ w'.cell? ⟨gk, 4, none⟩ = some (.int .u64 ((wd fb 0 : Nat) : Int)) ∧ w'.cell? ⟨gk, 5, none⟩ = some (.int .u64 ((wd fb 1 : Nat) : Int)) ∧ w'.cell? ⟨gk, 6, none⟩ = some (.int .u64 ((wd fb 2 : Nat) : Int)) ∧ w'.cell? ⟨gk, 7, none⟩ = some (.int .u64 ((wd fb 3 : Nat) : Int)) ∧ w'.cell? ⟨gw, 1, none⟩ = some (.int .i64 3)) (go_keep)
      (first
      | (go_at_call 11; (first | (with_reducible refine Calls.mono (HR0.out _) ?_) | (refine Calls.mono (HRl.out gs _ (Lf.drewN TT.out.a.l 1)) ?_)); rintro e vk ⟨rfl, bb⟩; have TB : Hid (A4 w vk ga gb g gs gk gw fa fF fb) := A4.grow TT.out (by first | exact bb | exact undrew bb); clear bb TT q0 q1 a0 a1 a2 a3 r0 r1 r2 r3 k0 k1 k2 k3 k4 k5 k6 k7 hw1; have TT : Hid (A4 w vk ga gb g gs gk gw fa fF fb) := TB.out; clear TB; obtain ⟨q0, q1⟩ := TT.out.a.c; obtain ⟨a0, a1, a2, a3⟩ := c4 TT.out.a.two.a; obtain ⟨r0, r1, r2, r3⟩ := c4 TT.out.a.two.b; obtain ⟨k0, k1, k2, k3⟩ := c4 TT.out.k; obtain ⟨k4, k5, k6, k7⟩ := c44 TT.out.l; have hw1 := TT.out.w)
      | (go_at_call 13; (first | (with_reducible refine Calls.mono (HPl.out gs _ TT.out.a.two.tab TT.out.a.l) ?_) | (with_reducible refine Calls.mono (HPn.out _ TT.out.a.two.tab) ?_)); rintro e vk ⟨rfl, bb⟩; have TB : Hid (A4 w vk ga gb g gs gk gw fa fF fb) := A4.grow TT.out (by first | exact bb | exact undrew bb); clear bb TT q0 q1 a0 a1 a2 a3 r0 r1 r2 r3 k0 k1 k2 k3 k4 k5 k6 k7 hw1; have TT : Hid (A4 w vk ga gb g gs gk gw fa fF fb) := TB.out; clear TB; obtain ⟨q0, q1⟩ := TT.out.a.c; obtain ⟨a0, a1, a2, a3⟩ := c4 TT.out.a.two.a; obtain ⟨r0, r1, r2, r3⟩ := c4 TT.out.a.two.b; obtain ⟨k0, k1, k2, k3⟩ := c4 TT.out.k; obtain ⟨k4, k5, k6, k7⟩ := c44 TT.out.l; have hw1 := TT.out.w)
      | (go_at_call 31; (with_reducible refine Calls.mono (HOab.out _) ?_); rintro e vk ⟨rfl, bb⟩; have TB : Hid (A4 w vk ga gb g gs gk gw fa fF fb) := A4.grow TT.out (by first | exact bb | exact undrew bb); clear bb TT q0 q1 a0 a1 a2 a3 r0 r1 r2 r3 k0 k1 k2 k3 k4 k5 k6 k7 hw1; have TT : Hid (A4 w vk ga gb g gs gk gw fa fF fb) := TB.out; clear TB; obtain ⟨q0, q1⟩ := TT.out.a.c; obtain ⟨a0, a1, a2, a3⟩ := c4 TT.out.a.two.a; obtain ⟨r0, r1, r2, r3⟩ := c4 TT.out.a.two.b; obtain ⟨k0, k1, k2, k3⟩ := c4 TT.out.k; obtain ⟨k4, k5, k6, k7⟩ := c44 TT.out.l; have hw1 := TT.out.w; have lz : ga < vk.heap.size ∧ gb < vk.heap.size ∧ gk < vk.heap.size ∧ gw < vk.heap.size ∧ g < vk.heap.size := A4.lts TT.out; obtain ⟨lz1, lz2, lz3, lz4, lz5⟩ := lz)
      | (go_at_call 15; (with_reducible refine Calls.mono (HBl.out gs _ TT.out.a.l) ?_); rintro e vk ⟨rfl, bb⟩; have TB : Hid (A4 w vk ga gb g gs gk gw fa fF fb) := A4.grow TT.out (by first | exact bb | exact undrew bb); clear bb TT q0 q1 a0 a1 a2 a3 r0 r1 r2 r3 k0 k1 k2 k3 k4 k5 k6 k7 hw1; have TT : Hid (A4 w vk ga gb g gs gk gw fa fF fb) := TB.out; clear TB; obtain ⟨q0, q1⟩ := TT.out.a.c; obtain ⟨a0, a1, a2, a3⟩ := c4 TT.out.a.two.a; obtain ⟨r0, r1, r2, r3⟩ := c4 TT.out.a.two.b; obtain ⟨k0, k1, k2, k3⟩ := c4 TT.out.k; obtain ⟨k4, k5, k6, k7⟩ := c44 TT.out.l; have hw1 := TT.out.w)
      | (go_at_call 22; (first | (with_reducible refine Calls.mono (HSl.out gs _ TT.out.a.l) ?_) | (with_reducible refine Calls.mono (HSx.out gs _ _ _ TT.out.a.l XX.out) ?_)); rintro e vk ⟨rfl, bb⟩; have TB : Hid (A4 w vk ga gb g gs gk gw fa fF fb) := A4.grow TT.out (by first | exact bb | exact undrew bb); clear bb TT q0 q1 a0 a1 a2 a3 r0 r1 r2 r3 k0 k1 k2 k3 k4 k5 k6 k7 hw1; have TT : Hid (A4 w vk ga gb g gs gk gw fa fF fb) := TB.out; clear TB; obtain ⟨q0, q1⟩ := TT.out.a.c; obtain ⟨a0, a1, a2, a3⟩ := c4 TT.out.a.two.a; obtain ⟨r0, r1, r2, r3⟩ := c4 TT.out.a.two.b; obtain ⟨k0, k1, k2, k3⟩ := c4 TT.out.k; obtain ⟨k4, k5, k6, k7⟩ := c44 TT.out.l; have hw1 := TT.out.w)
      | (go_at_call 17; (with_reducible refine Calls.mono (HTx.out 1 _) ?_); rintro e vk ⟨⟨bx, dx, rfl, hx⟩, bb⟩; have XX : Hid (Lf vk bx 3 (tx ⟨#[120, 121, 122]⟩)) := hx; clear hx; have TB : Hid (A4 w vk ga gb g gs gk gw fa fF fb) := A4.grow TT.out (by first | exact bb | exact undrew bb); clear bb TT q0 q1 a0 a1 a2 a3 r0 r1 r2 r3 k0 k1 k2 k3 k4 k5 k6 k7 hw1; have TT : Hid (A4 w vk ga gb g gs gk gw fa fF fb) := TB.out; clear TB; obtain ⟨q0, q1⟩ := TT.out.a.c; obtain ⟨a0, a1, a2, a3⟩ := c4 TT.out.a.two.a; obtain ⟨r0, r1, r2, r3⟩ := c4 TT.out.a.two.b; obtain ⟨k0, k1, k2, k3⟩ := c4 TT.out.k; obtain ⟨k4, k5, k6, k7⟩ := c44 TT.out.l; have hw1 := TT.out.w))
    go_wp2_with fail
    go_ret
    exact ⟨rfl, TT.out.a.two.bel⟩

end Cls
end Go.Proofs.YtcohcdebbkfdfaaDoor
