/- What alive of layer 12 asks: plain. Contracts of beaglelaw12.alive: it tells true; nothing that was there turns; and of beaglelaw12.few. Contracts of beaglelaw12.alive and of beaglelaw12.few. An ask in a box; the two rows of counts and of finds at one length. -/
import Derived.Test.YtlogdjhnhnfbkaaDoorSpA
import Derived.Test.YtlogdjhnhnfbkaaDoorLfAliveI
import Derived.Test.YtlogdjhnhnfbkaaDoorLfLaw
import Derived.Test.YtlogdjhnhnfbkaaDoorNvAl
import Derived.Test.YtlogdjhnhnfbkaaDoorLxBox
import Derived.Deep.RegionHeld3
import Derived.Test.YtlogdjhnhnfbkaaDoorSpB

namespace Go.Proofs.YtlogdjhnhnfbkaaDoor
open Go.RowKit Res
namespace Cls

def qca : ByteArray := ⟨#[97, 98, 99, 97]⟩
def qcabca : ByteArray := ⟨#[97, 98, 99, 97, 98, 99, 97]⟩
def qcab : ByteArray := ⟨#[97, 98, 99, 97, 98]⟩

theorem tx_sm (s : ByteArray) (i j : Nat) (hi : i < s.size) (hj : j < s.size) : sm (tx s i) (tx s j) = (byt s i == byt s j) := by
  rw [Bool.eq_iff_iff, sm_iff, beq_iff_eq]
  constructor
  · intro h
    have := h (byt s i) (byt_lt s i)
    rw [tx_byt s i hi, tx_byt s j hj] at this
    simpa using this
  · intro h x _
    rw [tx_byt s i hi, tx_byt s j hj, h]

theorem qsm (i j : Nat) (hi : i < 4) (hj : j < 4) : sm (tx qca i) (tx qca j) = (byt qca i == byt qca j) := tx_sm qca i j hi hj

theorem qkd : kd (tx qca) 4 = [tx qca 0, tx qca 1, tx qca 2] := by
  have h1 : kd (tx qca) 1 = [tx qca 0] := by
    rw [kd_out (n := 0) (fr_tx qca 0 (by decide)) rfl]
    rfl
  have h2 : kd (tx qca) 2 = [tx qca 0, tx qca 1] := by
    rw [kd_out (n := 1) (fr_tx qca 1 (by decide)) (by
      rw [h1]
      simp only [List.any_cons, List.any_nil, Bool.or_false]
      rw [qsm 0 1 (by decide) (by decide)]
      decide), h1]
    rfl
  have h3 : kd (tx qca) 3 = [tx qca 0, tx qca 1, tx qca 2] := by
    rw [kd_out (n := 2) (fr_tx qca 2 (by decide)) (by
      rw [h2]
      simp only [List.any_cons, List.any_nil, Bool.or_false]
      rw [qsm 0 2 (by decide) (by decide), qsm 1 2 (by decide) (by decide)]
      decide), h2]
    rfl
  rw [kd_in (n := 3) (by
    rw [h3]
    simp only [List.any_cons, List.any_nil, Bool.or_false]
    rw [qsm 0 3 (by decide) (by decide), qsm 1 3 (by decide) (by decide), qsm 2 3 (by decide) (by decide)]
    decide), h3]

theorem qoft (j : Nat) (hj : j < 4) : oft (tx qca) 4 (tx qca j) = ((byt qca 0 == byt qca j).toNat + (byt qca 1 == byt qca j).toNat + (byt qca 2 == byt qca j).toNat + (byt qca 3 == byt qca j).toNat) := by
  rw [oft_succ, oft_succ, oft_succ, oft_succ, oft_zero, qsm 0 j (by decide) hj, qsm 1 j (by decide) hj, qsm 2 j (by decide) hj, qsm 3 j (by decide) hj, Nat.zero_add]

theorem qfrq (least : Int) (j : Nat) (hj : j < 4) : frq (tx qca) 4 least (tx qca j) = decide (least ≤ (((byt qca 0 == byt qca j).toNat + (byt qca 1 == byt qca j).toNat + (byt qca 2 == byt qca j).toNat + (byt qca 3 == byt qca j).toNat : Nat) : Int)) := by
  unfold frq
  rw [qoft j hj]

theorem q20 : frq (tx qca) 4 2 (tx qca 0) = true := by rw [qfrq 2 0 (by decide)]; decide
theorem q21 : frq (tx qca) 4 2 (tx qca 1) = false := by rw [qfrq 2 1 (by decide)]; decide
theorem q22 : frq (tx qca) 4 2 (tx qca 2) = false := by rw [qfrq 2 2 (by decide)]; decide
theorem q10 : frq (tx qca) 4 1 (tx qca 0) = true := by rw [qfrq 1 0 (by decide)]; decide

theorem qfk : fks (tx qca) 4 2 = [tx qca 0] := by
  unfold fks
  rw [qkd]
  simp only [List.filter_cons, List.filter_nil, q20, q21, q22]
  rfl

theorem qrk : rks (tx qca) 4 2 = [tx qca 1, tx qca 2] := by
  unfold rks
  rw [qkd]
  simp only [List.filter_cons, List.filter_nil, q20, q21, q22]
  rfl

theorem qf1 : (fks (tx qca) 4 1).length ≠ 0 := by
  have : tx qca 0 ∈ fks (tx qca) 4 1 := List.mem_filter.2 ⟨by rw [qkd]; simp, q10⟩
  intro h
  rw [List.length_eq_zero_iff.1 h] at this
  cases this

theorem qrgt : rgt (tx qca) 4 1 = true := rgt_tx qca 1 (by decide) (by decide) (by decide) (by decide)
theorem qpln : pln (tx qca) 4 = true := pln_tx qca
theorem qse : spe (tx qca) 4 1 7 8 2 = 0 := spe_ok qrgt qpln (.inr (.inr (by decide)))
theorem qse9 : spe (tx qca) 4 1 7 8 9 = 0 := spe_ok qrgt qpln (.inr (.inr (by decide)))
theorem qse3 : spe (tx qca) 4 1 7 3 1 = 50 := spe_size qrgt qpln qf1 (by decide) (by decide)
theorem qsq : spq (tx qca) 4 1 7 8 2 = 9 := by rw [spq_ok qse, qfk]; decide
theorem qsq9 : spq (tx qca) 4 1 7 8 9 = 0 := by rw [spq_ok qse9, fks_none (tx qca) 4 (by decide)]; decide

theorem qmis (i : Nat) : mis (tx qca) qcabca i 4 = ((List.range 4).filter fun t => !(byt qcabca (i + t) == byt qca t)).length := mis_tx qca qcabca i 4 (by decide)
theorem qstn : stn (tx qca) 4 1 qcabca.size = 4 := stn_yes qrgt (by decide)
theorem qcts : cts (tx qca) 4 1 qcabca = [0, 4, 4, 0] := by
  unfold cts
  rw [qstn]
  simp only [qmis]
  decide
theorem qfnd : fnd (tx qca) 4 1 qcabca = [0, 3] := by
  rw [fnd_hts, qstn]
  unfold hts
  simp only [qmis]
  decide

theorem qamg (j : Nat) (hj : j < 4) : ([tx qca 1, tx qca 2].any fun g => sm (tx qca j) g) = (byt qca j == byt qca 1 || byt qca j == byt qca 2) := by
  simp only [List.any_cons, List.any_nil, Bool.or_false]
  rw [qsm j 1 hj (by decide), qsm j 2 hj (by decide)]

theorem qrre (i : Nat) : rre (tx qca) qcab i [tx qca 1, tx qca 2] 4 = ((byt qca 1 == byt qcab (i + 1)).toNat + (byt qca 2 == byt qcab (i + 2)).toNat) := by
  rw [rre_succ, rre_succ, rre_succ, rre_succ, rre_zero, qamg 0 (by decide), qamg 1 (by decide), qamg 2 (by decide), qamg 3 (by decide), tx_byt qca 0 (by decide), tx_byt qca 1 (by decide), tx_byt qca 2 (by decide), tx_byt qca 3 (by decide)]
  have e0 : (byt qca 0 == byt qca 1 || byt qca 0 == byt qca 2) = false := by decide
  have e1 : (byt qca 1 == byt qca 1 || byt qca 1 == byt qca 2) = true := by decide
  have e2 : (byt qca 2 == byt qca 1 || byt qca 2 == byt qca 2) = true := by decide
  have e3 : (byt qca 3 == byt qca 1 || byt qca 3 == byt qca 2) = false := by decide
  rw [e0, e1, e2, e3, Bool.beq_comm (a := byt qcab (i + 1)), Bool.beq_comm (a := byt qcab (i + 2))]
  simp

theorem qstr : stn (tx qca) 4 1 qcab.size = 2 := stn_yes qrgt (by decide)

def fc7 : Nat → Bool := inS ⟨#[99]⟩ 1

theorem fc7_at (x : Nat) : fc7 x = (x == 99) := by
  show (99 == x || false) = _
  rw [Bool.or_false, Bool.eq_iff_iff, beq_iff_eq, beq_iff_eq]
  exact eq_comm

theorem qsa : sm (tx qca 0) fa7 = true := sm_true (fun x _ => by rw [tx_byt qca 0 (by decide), fa7_at]; rfl)
theorem qsc : sm (tx qca 2) fc7 = true := sm_true (fun x _ => by rw [tx_byt qca 2 (by decide), fc7_at]; rfl)

end Cls

end Go.Proofs.YtlogdjhnhnfbkaaDoor

namespace Go.Proofs.YtlogdjhnhnfbkaaDoor
open Go.RowKit Go.Maps Res
namespace Cls

theorem al_then12 {v v' : World} {o : Obj} (bb : Below (v.alloc o).heap.size (v.alloc o) v') : Below v.heap.size v v' := (al_below v o).trans (bb.mono (by rw [al_size]; omega))

theorem lit4 (v : World) (a b c d : Nat) : Is (v.alloc (.cells #[.int .i64 (a : Int), .int .i64 (b : Int), .int .i64 (c : Int), .int .i64 (d : Int)] 3)) (some ⟨v.heap.size, 0, none⟩) [a, b, c, d] := fun _ => by
  refine ⟨v.heap.size, rfl, by rw [World.size_alloc]; omega, fun t ht => ?_⟩
  have hb : (v.alloc (.cells #[.int .i64 (a : Int), .int .i64 (b : Int), .int .i64 (c : Int), .int .i64 (d : Int)] 3)).heap[v.heap.size]? = some (.cells #[.int .i64 (a : Int), .int .i64 (b : Int), .int .i64 (c : Int), .int .i64 (d : Int)] 3) := World.alloc_heap_new v _
  unfold World.cell?
  rw [hb]
  match t, ht with
  | 0, _ => rfl
  | 1, _ => rfl
  | 2, _ => rfl
  | 3, _ => rfl

def tabca : ByteArray := ⟨#[97, 98, 99, 97]⟩

/-- What stands on the way of alive. -/
structure Ap (w v : World) (g : Nat) (bo : Option Addr) (d : Nat) (bf fo br ro : Nat) (ta tb tc : Nat → Bool) (rr co po : Option Addr) : Prop where
  o : Lx w v g bo 4 d (tx tabca) 1
  f : bf < v.heap.size ∧ Cl v bf fo 1 (fun _ => ta)
  r : br < v.heap.size ∧ Cl v br ro 2 (at' [tb, tc])
  e : rr = some ⟨br, ro, none⟩
  ic : Is v co [0, 4, 4, 0]
  ip : Is v po [0, 3]

theorem Ap.grow {w v v' : World} {g : Nat} {bo : Option Addr} {d bf fo br ro : Nat} {ta tb tc : Nat → Bool} {rr co po : Option Addr} (h : Ap w v g bo d bf fo br ro ta tb tc rr co po) (b : Below v.heap.size v v') : Ap w v' g bo d bf fo br ro ta tb tc rr co po :=
  ⟨h.o.grow b, ⟨Nat.lt_of_lt_of_le h.f.1 b.size, h.f.2.below b h.f.1⟩, ⟨Nat.lt_of_lt_of_le h.r.1 b.size, h.r.2.below b h.r.1⟩, h.e, h.ic.grow b, h.ip.grow b⟩

theorem Ap.lr {w v : World} {g : Nat} {bo : Option Addr} {d bf fo br ro : Nat} {ta tb tc : Nat → Bool} {rr co po : Option Addr} (h : Ap w v g bo d bf fo br ro ta tb tc rr co po) : Lf v rr 2 (at' [tb, tc]) := ⟨by omega, fun _ => ⟨br, ro, h.e, h.r.1, h.r.2⟩⟩

/-- The cells that are read. -/
theorem Ap.cells {w v : World} {g : Nat} {bo : Option Addr} {d bf fo br ro : Nat} {ta tb tc : Nat → Bool} {rr co po : Option Addr} (h : Ap w v g bo d bf fo br ro ta tb tc rr co po) :
    (v.cell? ⟨g, 0, none⟩ = some (.slice bo 4 d) ∧ v.cell? ⟨g, 1, none⟩ = some (.int .i64 1)) ∧
    (v.cell? ⟨bf, fo, none⟩ = some (.int .u64 ((wd ta 0 : Nat) : Int)) ∧ v.cell? ⟨bf, fo + 1, none⟩ = some (.int .u64 ((wd ta 1 : Nat) : Int)) ∧ v.cell? ⟨bf, fo + 2, none⟩ = some (.int .u64 ((wd ta 2 : Nat) : Int)) ∧ v.cell? ⟨bf, fo + 3, none⟩ = some (.int .u64 ((wd ta 3 : Nat) : Int))) ∧
    (v.cell? ⟨br, ro + 4, none⟩ = some (.int .u64 ((wd tc 0 : Nat) : Int)) ∧ v.cell? ⟨br, ro + 4 + 1, none⟩ = some (.int .u64 ((wd tc 1 : Nat) : Int)) ∧ v.cell? ⟨br, ro + 4 + 2, none⟩ = some (.int .u64 ((wd tc 2 : Nat) : Int)) ∧ v.cell? ⟨br, ro + 4 + 3, none⟩ = some (.int .u64 ((wd tc 3 : Nat) : Int))) :=
  ⟨h.o.c, by simpa using h.f.2.four (t := 0) (by omega), by have h1 := h.r.2.four (t := 1) (by omega); rw [show at' [tb, tc] 1 = tc from rfl] at h1; simpa using h1⟩

set_option maxRecDepth 100000 in
set_option maxHeartbeats 8000000 in
theorem alive12_core (fa fc fab ta tb tc : Nat → Bool) (hsa : sm ta fa = true) (hsc : sm tc fc = true)
    (hOa : ∀ w : World, Calls Tryd.prog 24 #[.string ⟨#[97]⟩] w fun e w' => e = .returned (.agg #[.int .u64 ((wd (fa) 0 : Nat) : Int), .int .u64 ((wd (fa) 1 : Nat) : Int), .int .u64 ((wd (fa) 2 : Nat) : Int), .int .u64 ((wd (fa) 3 : Nat) : Int)]) ∧ Below w.heap.size w w')
    (hOc : ∀ w : World, Calls Tryd.prog 24 #[.string ⟨#[99]⟩] w fun e w' => e = .returned (.agg #[.int .u64 ((wd (fc) 0 : Nat) : Int), .int .u64 ((wd (fc) 1 : Nat) : Int), .int .u64 ((wd (fc) 2 : Nat) : Int), .int .u64 ((wd (fc) 3 : Nat) : Int)]) ∧ Below w.heap.size w w')
    (hOab : ∀ w : World, Calls Tryd.prog 24 #[.string ⟨#[97, 98]⟩] w fun e w' => e = .returned (.agg #[.int .u64 ((wd (fab) 0 : Nat) : Int), .int .u64 ((wd (fab) 1 : Nat) : Int), .int .u64 ((wd (fab) 2 : Nat) : Int), .int .u64 ((wd (fab) 3 : Nat) : Int)]) ∧ Below w.heap.size w w')
    (hTx : ∀ w : World, Calls Tryd.prog 22 #[.string ⟨#[97, 98, 99, 97]⟩, .int .i64 1] w fun e w' => (∃ bo d, e = .returned (.agg #[.slice bo 4 d, .int .i64 1]) ∧ Lf w' bo 4 (tx tabca)) ∧ Below w.heap.size w w')
    (hPt : ∀ (bo : Option Addr) (d : Nat) (w : World), Lf w bo 4 (tx tabca) → Calls Tryd.prog 10 #[.agg #[.slice bo 4 d, .int .i64 1], .int .i64 2] w fun e w' => (∃ fo fd rr rd, e = .returned (.tuple #[.slice fo 1 fd, .slice rr 2 rd]) ∧ Lf w' fo 1 (fun _ => ta) ∧ Lf w' rr 2 (at' [tb, tc])) ∧ Below w.heap.size w w')
    (hC : ∀ (bo : Option Addr) (d : Nat) (w : World), Tab w → TabB w → Lf w bo 4 (tx tabca) → Calls Tryd.prog 19 #[.agg #[.slice bo 4 d, .int .i64 1], .string ⟨#[97, 98, 99, 97, 98, 99, 97]⟩, .int .i64 8, .int .i64 2] w fun e w' => (∃ co c, e = .returned (.tuple #[.slice co 4 c, .int .i64 9, .int .i64 0]) ∧ Is w' co [0, 4, 4, 0]) ∧ Below w.heap.size w w')
    (hF : ∀ (bo : Option Addr) (d : Nat) (w : World), Tab w → TabB w → Lf w bo 4 (tx tabca) → Calls Tryd.prog 23 #[.agg #[.slice bo 4 d, .int .i64 1], .string ⟨#[97, 98, 99, 97, 98, 99, 97]⟩, .int .i64 8, .int .i64 9] w fun e w' => (∃ co c, e = .returned (.tuple #[.slice co 2 c, .int .i64 0, .int .i64 0]) ∧ Is w' co [0, 3]) ∧ Below w.heap.size w w')
    (hN : ∀ (gs : Nat) (w : World), Tab w → TabB w → Lf w (some ⟨gs, 0, none⟩) 1 (fun _ => fab) → Calls Tryd.prog 19 #[.agg #[.slice (some ⟨gs, 0, none⟩) 1 1, .int .i64 0], .string ⟨#[97]⟩, .int .i64 1, .int .i64 1] w fun e w' => (∃ co c, e = .returned (.tuple #[.slice co 0 c, .int .i64 0, .int .i64 170])) ∧ Below w.heap.size w w')
    (hS : ∀ (bo : Option Addr) (d : Nat) (w : World), Tab w → TabB w → Lf w bo 4 (tx tabca) → Calls Tryd.prog 19 #[.agg #[.slice bo 4 d, .int .i64 1], .string ⟨#[97, 98, 99, 97, 98, 99, 97]⟩, .int .i64 3, .int .i64 1] w fun e w' => (∃ co c, e = .returned (.tuple #[.slice co 0 c, .int .i64 0, .int .i64 50])) ∧ Below w.heap.size w w')
    (hR : ∀ (bo rr : Option Addr) (d rd : Nat) (w : World), Lf w bo 4 (tx tabca) → Lf w rr 2 (at' [tb, tc]) → Calls Tryd.prog 15 #[.agg #[.slice bo 4 d, .int .i64 1], .string ⟨#[97, 98, 99, 97, 98]⟩, .slice rr 2 rd] w fun e w' => (∃ co c, e = .returned (.slice co 2 c) ∧ Is w' co [2, 0]) ∧ Below w.heap.size w w')
    (w : World) (hA : Tab w) (hB : TabB w) : Calls Tryd.prog 9 #[] w fun e w' => e = .returned (.bool true) ∧ Below w.heap.size w w' := by
  have HOa : Hid _ := hOa
  have HOc : Hid _ := hOc
  have HOab : Hid _ := hOab
  have HTx : Hid _ := hTx
  have HPt : Hid _ := hPt
  have HC : Hid _ := hC
  have HF : Hid _ := hF
  have HN : Hid _ := hN
  have HS : Hid _ := hS
  have HR : Hid _ := hR
  have HA : Hid (Tab w) := hA
  have HB : Hid (TabB w) := hB
  have HP : Hid (∀ (L : List Nat) (m : Nat) (ao bo : Option Addr) (d c : Nat) (w : World), L.length = m → m ≤ 10 → Is w ao L → Is w bo L → Calls Tryd.prog 14 #[.slice ao m d, .slice bo m c] w fun e w' => e = .returned (.bool true) ∧ Below w.heap.size w w') := fun L m ao bo d c w hm h10 ha hb => by
    subst hm
    have h := places_any L L d c ao bo w ha hb (by omega) (by omega)
    rw [eqi_same] at h
    exact h
  clear hOa hOc hOab hTx hPt hC hF hN hS hR hA hB
  have c1 : Hid _ := HTx.out w
  go_enter Tryd.func9, Tryd.ntmps9
  go_wp2_with fail
  refine Calls.mono (Hid.out c1) ?_; rintro e w1 ⟨⟨bo, d, rfl, l1⟩, b1⟩
  obtain ⟨w2, x2⟩ := lbox w1 (.slice bo 4 d) (.int .i64 1)
  have E2 : Hid _ := x2.eq
  have b2 : Below w.heap.size w w2 := b1.trans (x2.bel.mono b1.size)
  have Y2 : Hid (Lx w w2 w1.heap.size bo 4 d (tx tabca) 1) := ⟨b2, ⟨x2.c0, x2.c1⟩, l1.grow x2.bel, tab_grow HA.out b2, HB.out.grow b2⟩
  have c2 : Hid _ := HPt.out bo d w2 Y2.out.l
  obtain ⟨k0, k1⟩ := Y2.out.c
  clear l1 b1 b2 x2 c1 HTx HA HB
  go_wp2_with (first | rw [← E2.out])
  refine Calls.mono (Hid.out c2) ?_; rintro e w3 ⟨⟨fo, fd, rr, rd, rfl, lf3, lr3⟩, b3⟩
  have Y3 : Hid _ := Y2.out.grow b3
  have F3 : Hid (Lf w3 fo 1 (fun _ => ta)) := lf3
  have R3 : Hid (Lf w3 rr 2 (at' [tb, tc])) := lr3
  have c3 : Hid _ := HC.out bo d w3 Y3.out.ta Y3.out.tb Y3.out.l
  clear k0 k1 b3 c2 Y2 E2 lf3 lr3 HC
  generalize w1.heap.size = g at *
  obtain ⟨k0, k1⟩ := Y3.out.c
  go_wp2_with fail
  refine Calls.mono (Hid.out c3) ?_; rintro e w4 ⟨⟨co, cc, rfl, ic⟩, b4⟩
  have Y4 : Hid _ := Y3.out.grow b4
  have F4 : Hid (Lf w4 fo 1 (fun _ => ta)) := F3.out.grow b4
  have R4 : Hid (Lf w4 rr 2 (at' [tb, tc])) := R3.out.grow b4
  have I4 : Hid (Is w4 co [0, 4, 4, 0]) := ic
  have c4' : Hid _ := HF.out bo d w4 Y4.out.ta Y4.out.tb Y4.out.l
  clear k0 k1 b4 c3 Y3 F3 R3 ic HF
  obtain ⟨k0, k1⟩ := Y4.out.c
  go_wp2_with fail
  refine Calls.mono (Hid.out c4') ?_; rintro e w5 ⟨⟨po, pc, rfl, ip⟩, b5⟩
  obtain ⟨bf, of, rfl, hf1, hf2⟩ := (F4.out.grow b5).lies (by omega)
  obtain ⟨br, or', rfl, hr1, hr2⟩ := (R4.out.grow b5).lies (by omega)
  have T5 : Hid (Ap w w5 g bo d bf of br or' ta tb tc (some ⟨br, or', none⟩) co po) := ⟨Y4.out.grow b5, ⟨hf1, hf2⟩, ⟨hr1, hr2⟩, rfl, I4.out.grow b5, ip⟩
  have c5 : Hid _ := HOab.out w5
  clear k0 k1 b5 c4' Y4 F4 R4 I4 ip hf1 hf2 hr1 hr2
  go_wp2_with fail
  refine Calls.mono (Hid.out c5) ?_; rintro e w6 ⟨rfl, b6⟩
  obtain ⟨w7, x7⟩ := box w6 fab
  have E7 : Hid _ := x7.eq
  have T7 : Hid (Ap w w7 g bo d bf of br or' ta tb tc (some ⟨br, or', none⟩) co po) := (T5.out.grow b6).grow x7.bel
  have c7 : Hid _ := HN.out w6.heap.size w7 T7.out.o.ta T7.out.o.tb (by rw [x7.eq]; exact lf4 w6 fab)
  clear b6 c5 T5 x7 HN HOab
  go_wp2_with (first | rw [← E7.out])
  refine Calls.mono (Hid.out c7) ?_; rintro e w8 ⟨⟨no, nc, rfl⟩, b8⟩
  have T8 : Hid (Ap w w8 g bo d bf of br or' ta tb tc (some ⟨br, or', none⟩) co po) := T7.out.grow b8
  have c8 : Hid _ := HS.out bo d w8 T8.out.o.ta T8.out.o.tb T8.out.o.l
  clear b8 c7 T7 E7 HS
  obtain ⟨k0, k1⟩ := T8.out.o.c
  go_wp2_with fail
  refine Calls.mono (Hid.out c8) ?_; rintro e w9 ⟨⟨zo, zc, rfl⟩, b9⟩
  have TT : Hid (Ap w w9 g bo d bf of br or' ta tb tc (some ⟨br, or', none⟩) co po) := T8.out.grow b9
  clear b9 c8 T8 k0 k1
  obtain ⟨⟨k0, k1⟩, ⟨f0, f1, f2, f3⟩, ⟨r0, r1, r2, r3⟩⟩ := TT.out.cells
  have HPa : Hid (∀ v, (Ap w v g bo d bf of br or' ta tb tc (some ⟨br, or', none⟩) co po) → Calls Tryd.prog 14 #[.slice co 4 cc, .slice (some ⟨v.heap.size, 0, none⟩) 4 4] (v.alloc (.cells #[.int .i64 0, .int .i64 4, .int .i64 4, .int .i64 0] 3)) fun e w' => e = .returned (.bool true) ∧ Below v.heap.size v w') := fun v hv => (HP.out [0, 4, 4, 0] 4 co _ cc 4 _ rfl (by decide) (Is.grow hv.ic (al_below _ _)) (lit4 v 0 4 4 0)).mono fun e w' ⟨he, hb⟩ => ⟨he, al_then12 hb⟩
  have HPb : Hid (∀ v, (Ap w v g bo d bf of br or' ta tb tc (some ⟨br, or', none⟩) co po) → Calls Tryd.prog 14 #[.slice po 2 pc, .slice (some ⟨v.heap.size, 0, none⟩) 2 2] (v.alloc (.cells #[.int .i64 0, .int .i64 3] 3)) fun e w' => e = .returned (.bool true) ∧ Below v.heap.size v w') := fun v hv => (HP.out [0, 3] 2 po _ pc 2 _ rfl (by decide) (Is.grow hv.ip (al_below _ _)) (lit2 v 0 3)).mono fun e w' ⟨he, hb⟩ => ⟨he, al_then12 hb⟩
  have HPx : Hid (∀ (v : World) (xo : Option Addr) (xc : Nat), Is v xo [2, 0] → Calls Tryd.prog 14 #[.slice xo 2 xc, .slice (some ⟨v.heap.size, 0, none⟩) 2 2] (v.alloc (.cells #[.int .i64 2, .int .i64 0] 3)) fun e w' => e = .returned (.bool true) ∧ Below v.heap.size v w') := fun v xo xc hv => (HP.out [2, 0] 2 xo _ xc 2 _ rfl (by decide) (Is.grow hv (al_below _ _)) (lit2 v 2 0)).mono fun e w' ⟨he, hb⟩ => ⟨he, al_then12 hb⟩
  have HPy : Hid (∀ (v v' : World) (xo : Option Addr) (xc : Nat), Is v' (some ⟨v.heap.size, 0, none⟩) [2, 0] → Is v' xo [2, 0] → Calls Tryd.prog 14 #[.slice xo 2 xc, .slice (some ⟨v.heap.size, 0, none⟩) 2 2] v' fun e w' => e = .returned (.bool true) ∧ Below v'.heap.size v' w') := fun v v' xo xc h1 h2 => HP.out [2, 0] 2 xo _ xc 2 _ rfl (by decide) h2 h1
  have HRx : Hid (∀ v, (Ap w v g bo d bf of br or' ta tb tc (some ⟨br, or', none⟩) co po) → Calls Tryd.prog 15 #[.agg #[.slice bo 4 d, .int .i64 1], .string ⟨#[97, 98, 99, 97, 98]⟩, .slice (some ⟨br, or', none⟩) 2 rd] v fun e w' => (∃ xo xc, e = .returned (.slice xo 2 xc) ∧ Is w' xo [2, 0]) ∧ Below v.heap.size v w') := fun v hv => HR.out bo _ d rd v hv.o.l hv.lr
  have HRy : Hid (∀ v, (Ap w v g bo d bf of br or' ta tb tc (some ⟨br, or', none⟩) co po) → Calls Tryd.prog 15 #[.agg #[.slice bo 4 d, .int .i64 1], .string ⟨#[97, 98, 99, 97, 98]⟩, .slice (some ⟨br, or', none⟩) 2 rd] (v.alloc (.cells #[.int .i64 2, .int .i64 0] 3)) fun e w' => (∃ xo xc, e = .returned (.slice xo 2 xc) ∧ Is w' xo [2, 0] ∧ Is w' (some ⟨v.heap.size, 0, none⟩) [2, 0]) ∧ Below v.heap.size v w') := fun v hv => (HR.out bo _ d rd (v.alloc (.cells #[.int .i64 2, .int .i64 0] 3)) (Lf.grow hv.o.l (al_below _ _)) (Lf.grow hv.lr (al_below _ _))).mono fun e w' ⟨⟨xo, xc, he, hi⟩, hb⟩ => ⟨⟨xo, xc, he, hi, Is.grow (lit2 v 2 0) hb⟩, al_then12 hb⟩
  clear HP HR
  go_wp2_with fail
  go_region_held3 (fun w' => w'.cell? ⟨g, 0, none⟩ = some (.slice bo 4 d) ∧ w'.cell? ⟨g, 1, none⟩ = some (.int .i64 1) ∧ w'.cell? ⟨bf, of, none⟩ = some (.int .u64 ((wd ta 0 : Nat) : Int)) ∧ w'.cell? ⟨bf, of + 1, none⟩ = some (.int .u64 ((wd ta 1 : Nat) : Int)) ∧ w'.cell? ⟨bf, of + 2, none⟩ = some (.int .u64 ((wd ta 2 : Nat) : Int)) ∧ w'.cell? ⟨bf, of + 3, none⟩ = some (.int .u64 ((wd ta 3 : Nat) : Int)) ∧ w'.cell? ⟨br, or' + 4, none⟩ = some (.int .u64 ((wd tc 0 : Nat) : Int)) ∧ w'.cell? ⟨br, or' + 4 + 1, none⟩ = some (.int .u64 ((wd tc 1 : Nat) : Int)) ∧ w'.cell? ⟨br, or' + 4 + 2, none⟩ = some (.int .u64 ((wd tc 2 : Nat) : Int)) ∧ w'.cell? ⟨br, or' + 4 + 3, none⟩ = some (.int .u64 ((wd tc 3 : Nat) : Int))) (go_keep)
    (first
      | (go_at_call 24; (with_reducible refine Calls.mono (HOa.out _) ?_); rintro e vk ⟨rfl, bb⟩; have TB : Hid (Ap w vk g bo d bf of br or' ta tb tc (some ⟨br, or', none⟩) co po) := Ap.grow TT.out (undrew bb); clear TT k0 k1 f0 f1 f2 f3 r0 r1 r2 r3 bb; have TT : Hid (Ap w vk g bo d bf of br or' ta tb tc (some ⟨br, or', none⟩) co po) := TB.out; clear TB; obtain ⟨⟨k0, k1⟩, ⟨f0, f1, f2, f3⟩, ⟨r0, r1, r2, r3⟩⟩ := TT.out.cells)
      | (go_at_call 24; (with_reducible refine Calls.mono (HOc.out _) ?_); rintro e vk ⟨rfl, bb⟩; have TB : Hid (Ap w vk g bo d bf of br or' ta tb tc (some ⟨br, or', none⟩) co po) := Ap.grow TT.out bb; clear TT k0 k1 f0 f1 f2 f3 r0 r1 r2 r3 bb; have TT : Hid (Ap w vk g bo d bf of br or' ta tb tc (some ⟨br, or', none⟩) co po) := TB.out; clear TB; obtain ⟨⟨k0, k1⟩, ⟨f0, f1, f2, f3⟩, ⟨r0, r1, r2, r3⟩⟩ := TT.out.cells)
      | (go_at_call 15; (with_reducible refine Calls.mono (HRx.out _ TT.out) ?_); rintro e vk ⟨⟨xo, xc, rfl, ix⟩, bb⟩; have IX : Hid (Is vk xo [2, 0]) := ix; clear ix; have TB : Hid (Ap w vk g bo d bf of br or' ta tb tc (some ⟨br, or', none⟩) co po) := Ap.grow TT.out bb; clear TT k0 k1 f0 f1 f2 f3 r0 r1 r2 r3 bb; have TT : Hid (Ap w vk g bo d bf of br or' ta tb tc (some ⟨br, or', none⟩) co po) := TB.out; clear TB; obtain ⟨⟨k0, k1⟩, ⟨f0, f1, f2, f3⟩, ⟨r0, r1, r2, r3⟩⟩ := TT.out.cells)
      | (go_at_call 15; (with_reducible refine Calls.mono (HRy.out _ TT.out) ?_); rintro e vk ⟨⟨xo, xc, rfl, ix, iy⟩, bb⟩; have IXB : Hid (Is vk xo [2, 0]) := ix; have IY : Hid (Is vk (some ⟨_, 0, none⟩) [2, 0]) := iy; clear ix iy; have TB : Hid (Ap w vk g bo d bf of br or' ta tb tc (some ⟨br, or', none⟩) co po) := Ap.grow TT.out bb; clear TT k0 k1 f0 f1 f2 f3 r0 r1 r2 r3 bb; have TT : Hid (Ap w vk g bo d bf of br or' ta tb tc (some ⟨br, or', none⟩) co po) := TB.out; clear TB; obtain ⟨⟨k0, k1⟩, ⟨f0, f1, f2, f3⟩, ⟨r0, r1, r2, r3⟩⟩ := TT.out.cells)
      | (go_at_call 14; (with_reducible refine Calls.mono (HPa.out _ TT.out) ?_); rintro e vk ⟨rfl, bb⟩; have TB : Hid (Ap w vk g bo d bf of br or' ta tb tc (some ⟨br, or', none⟩) co po) := Ap.grow TT.out bb; clear TT k0 k1 f0 f1 f2 f3 r0 r1 r2 r3 bb; have TT : Hid (Ap w vk g bo d bf of br or' ta tb tc (some ⟨br, or', none⟩) co po) := TB.out; clear TB; obtain ⟨⟨k0, k1⟩, ⟨f0, f1, f2, f3⟩, ⟨r0, r1, r2, r3⟩⟩ := TT.out.cells)
      | (go_at_call 14; (with_reducible refine Calls.mono (HPb.out _ TT.out) ?_); rintro e vk ⟨rfl, bb⟩; have TB : Hid (Ap w vk g bo d bf of br or' ta tb tc (some ⟨br, or', none⟩) co po) := Ap.grow TT.out bb; clear TT k0 k1 f0 f1 f2 f3 r0 r1 r2 r3 bb; have TT : Hid (Ap w vk g bo d bf of br or' ta tb tc (some ⟨br, or', none⟩) co po) := TB.out; clear TB; obtain ⟨⟨k0, k1⟩, ⟨f0, f1, f2, f3⟩, ⟨r0, r1, r2, r3⟩⟩ := TT.out.cells)
      | (go_at_call 14; (with_reducible refine Calls.mono (HPx.out _ _ _ IX.out) ?_); rintro e vk ⟨rfl, bb⟩; have TB : Hid (Ap w vk g bo d bf of br or' ta tb tc (some ⟨br, or', none⟩) co po) := Ap.grow TT.out bb; clear TT k0 k1 f0 f1 f2 f3 r0 r1 r2 r3 bb; have TT : Hid (Ap w vk g bo d bf of br or' ta tb tc (some ⟨br, or', none⟩) co po) := TB.out; clear TB; obtain ⟨⟨k0, k1⟩, ⟨f0, f1, f2, f3⟩, ⟨r0, r1, r2, r3⟩⟩ := TT.out.cells)
      | (go_at_call 14; (with_reducible refine Calls.mono (HPy.out _ _ _ _ IY.out IXB.out) ?_); rintro e vk ⟨rfl, bb⟩; have TB : Hid (Ap w vk g bo d bf of br or' ta tb tc (some ⟨br, or', none⟩) co po) := Ap.grow TT.out bb; clear TT k0 k1 f0 f1 f2 f3 r0 r1 r2 r3 bb; have TT : Hid (Ap w vk g bo d bf of br or' ta tb tc (some ⟨br, or', none⟩) co po) := TB.out; clear TB; obtain ⟨⟨k0, k1⟩, ⟨f0, f1, f2, f3⟩, ⟨r0, r1, r2, r3⟩⟩ := TT.out.cells))
  all_goals
    go_wp2_with fail
    go_ret
    exact ⟨rfl, TT.out.o.bel⟩

end Cls

end Go.Proofs.YtlogdjhnhnfbkaaDoor

namespace Go.Proofs.YtlogdjhnhnfbkaaDoor
open Go.RowKit Go.Maps Res
namespace Cls

theorem lf_one {w : World} {ao : Option Addr} {f : Nat → Bool} (h : Lf w ao 1 (at' [f])) : Lf w ao 1 (fun _ => f) := ⟨h.small, fun hn => by
  obtain ⟨b, o, e, hlt, hc⟩ := h.lies hn
  exact ⟨b, o, e, hlt, hc.congr (fun t ht => by (obtain rfl : t = 0 := (by omega)); rfl)⟩⟩

set_option maxRecDepth 4000 in
theorem alive12_any (w : World) (hA : Tab w) (hB : TabB w) : Calls Tryd.prog 9 #[] w fun e w' => e = .returned (.bool true) ∧ Below w.heap.size w w' :=
  alive12_core fa7 fc7 fab7 (tx qca 0) (tx qca 1) (tx qca 2) qsa qsc (fun w => of_any ⟨#[97]⟩ (by decide) w) (fun w => of_any ⟨#[99]⟩ (by decide) w) (fun w => of_any ⟨#[97, 98]⟩ (by decide) w)
    (fun w => text_any qca 1 w (by decide))
    (fun bo d w hl => (parts12_any (tx qca) 4 d bo 1 2 w hl).mono (by
      rintro e w' ⟨⟨fo, fd, ro, rd, rfl, hf, hr⟩, hb⟩
      rw [qfk] at hf ⊢
      rw [qrk] at hr ⊢
      exact ⟨⟨fo, fd, ro, rd, rfl, lf_one hf, hr⟩, hb⟩))
    (fun bo d w hA hB hl => (counts12_any (tx qca) 4 d bo 1 8 2 qcabca (by decide) w hA hB hl).mono (by
      rintro e w' ⟨⟨co, c, rfl, hi⟩, hb⟩
      have e1 : spc (tx qca) 4 1 qcabca 8 2 = [0, 4, 4, 0] := by rw [spc_ok (show spe (tx qca) 4 1 qcabca.size 8 2 = 0 from qse), qcts]
      rw [e1] at hi
      rw [e1, show spe (tx qca) 4 1 qcabca.size 8 2 = 0 from qse, show spq (tx qca) 4 1 qcabca.size 8 2 = 9 from qsq]
      exact ⟨⟨co, c, rfl, hi⟩, hb⟩))
    (fun bo d w hA hB hl => (find12_any (tx qca) 4 d bo 1 8 9 qcabca (by decide) w hA hB hl).mono (by
      rintro e w' ⟨⟨co, c, rfl, hi⟩, hb⟩
      have e1 : spf (tx qca) 4 1 qcabca 8 9 = [0, 3] := by rw [spf_ok (show spe (tx qca) 4 1 qcabca.size 8 9 = 0 from qse9), qfnd]
      rw [e1] at hi
      rw [e1, show spe (tx qca) 4 1 qcabca.size 8 9 = 0 from qse9, show spq (tx qca) 4 1 qcabca.size 8 9 = 0 from qsq9]
      exact ⟨⟨co, c, rfl, hi⟩, hb⟩))
    (fun gs w hA hB hl => (counts12_any (fun _ => fab7) 1 1 (some ⟨gs, 0, none⟩) 0 1 1 ⟨#[97]⟩ (by decide) w hA hB hl).mono (by
      rintro e w' ⟨⟨co, c, rfl, _⟩, hb⟩
      have e0 : ∀ m z l, spe (fun _ => fab7) 1 0 m z l = 170 := fun m z l => spe_form (.inr pln_ab)
      rw [spc_no (by rw [e0]; decide), spq_no (by rw [e0]; decide), e0]
      exact ⟨⟨co, c, rfl⟩, hb⟩))
    (fun bo d w hA hB hl => (counts12_any (tx qca) 4 d bo 1 3 1 qcabca (by decide) w hA hB hl).mono (by
      rintro e w' ⟨⟨co, c, rfl, _⟩, hb⟩
      have e0 : spe (tx qca) 4 1 qcabca.size 3 1 = 50 := qse3
      rw [spc_no (by rw [e0]; decide), spq_no (by rw [e0]; decide), e0]
      exact ⟨⟨co, c, rfl⟩, hb⟩))
    (fun bo rr d rd w hl hr => (rare12_any (tx qca) 4 d bo 1 qcab [tx qca 1, tx qca 2] rd rr (by decide) w hl hr).mono (by
      rintro e w' ⟨⟨co, c, rfl, hc⟩, hb⟩
      rw [qstr] at hc ⊢
      refine ⟨⟨co, c, rfl, Cr.is (L := [2, 0]) hc (fun t ht => ?_)⟩, hb⟩
      rw [qrre]
      match t, ht with
      | 0, _ => exact (by decide : (((byt qca 1 == byt qcab (0 + 1)).toNat + (byt qca 2 == byt qcab (0 + 2)).toNat : Nat) : Int) = ((2 : Nat) : Int))
      | 1, _ => exact (by decide : (((byt qca 1 == byt qcab (1 + 1)).toNat + (byt qca 2 == byt qcab (1 + 2)).toNat : Nat) : Int) = ((0 : Nat) : Int))))
    w hA hB

set_option maxHeartbeats 1000000 in
theorem few12_any (n cap : Nat) (ao : Option Addr) (K : Int) (s : ByteArray) (hs : s.size < 9223372036854775808) (hn : n ≤ 9223372036854775807) (w : World) :
    Calls Tryd.prog 8 #[.agg #[.slice ao n cap, .int .i64 K], .string s] w fun e w' => e = .returned (.bool (decide (n ≤ 100 ∧ s.size ≤ 300))) ∧ Below w.heap.size w w' := by
  obtain ⟨w1, b1⟩ := lbox w (.slice ao n cap) (.int .i64 K)
  have E1 : Hid _ := b1.eq
  have B1 : Hid (Below w.heap.size w w1) := b1.bel
  have c0 := b1.c0
  clear b1
  by_cases h1 : n ≤ 100
  · have h1I : (n : Int) ≤ 100 := by omega
    by_cases h2 : s.size ≤ 300
    · have h2I : (s.size : Int) ≤ 300 := by omega
      have e : Hid (decide (n ≤ 100 ∧ s.size ≤ 300) = true) := decide_eq_true ⟨h1, h2⟩
      go_enter Tryd.func8, Tryd.ntmps8
      go_wp2_with (first | rw [← E1.out])
      go_ret
      exact ⟨by first | rfl | (rw [e.out]; rfl), B1.out⟩
    · have h2I : ¬ (s.size : Int) ≤ 300 := by omega
      have e : Hid (decide (n ≤ 100 ∧ s.size ≤ 300) = false) := decide_eq_false (fun h => h2 h.2)
      go_enter Tryd.func8, Tryd.ntmps8
      go_wp2_with (first | rw [← E1.out])
      go_ret
      exact ⟨by first | rfl | (rw [e.out]; rfl), B1.out⟩
  · have h1I : ¬ (n : Int) ≤ 100 := by omega
    have e : Hid (decide (n ≤ 100 ∧ s.size ≤ 300) = false) := decide_eq_false (fun h => h1 h.1)
    go_enter Tryd.func8, Tryd.ntmps8
    go_wp2_with (first | rw [← E1.out])
    go_ret
    exact ⟨by first | rfl | (rw [e.out]; rfl), B1.out⟩

end Cls

end Go.Proofs.YtlogdjhnhnfbkaaDoor

namespace Go.Proofs.YtlogdjhnhnfbkaaDoor
open Go.RowKit Go.Maps Res
namespace Cls

/-- Two numbers in a box. -/
structure Za (w : World) (g : Nat) (x y : Int) : Prop where
  c0 : w.cell? ⟨g, 0, none⟩ = some (.int .i64 x)
  c1 : w.cell? ⟨g, 1, none⟩ = some (.int .i64 y)

theorem Za.grow {w w' : World} {g : Nat} {x y : Int} (h : Za w g x y) (b : Below w.heap.size w w') : Za w' g x y :=
  have hl : g < w.heap.size := World.block_lt_of_cell? w _ h.c0
  ⟨(b.cell (p := ⟨g, 0, none⟩) hl).trans h.c0, (b.cell (p := ⟨g, 1, none⟩) hl).trans h.c1⟩

theorem za_new (w : World) (x y : Int) : Za (w.alloc (.cells #[.int .i64 x, .int .i64 y] 40)) w.heap.size x y := by
  have hb : (w.alloc (.cells #[.int .i64 x, .int .i64 y] 40)).heap[w.heap.size]? = some (.cells #[.int .i64 x, .int .i64 y] 40) := World.alloc_heap_new w _
  refine ⟨?_, ?_⟩
  all_goals
    unfold World.cell?
    rw [hb]
    rfl

end Cls

end Go.Proofs.YtlogdjhnhnfbkaaDoor
