/- Contracts of beaglelaw10.alive: it tells true; nothing that was there turns; and of beaglelaw10.few. -/
import Derived.Test.YtbojmkkpgglhhaaDoorWdFind
import Derived.Test.YtbojmkkpgglhhaaDoorLfAliveI
import Derived.Test.YtbojmkkpgglhhaaDoorNvAl
import Derived.Test.YtbojmkkpgglhhaaDoorConvLaw
namespace Go.Proofs.YtbojmkkpgglhhaaDoor
open Go.RowKit Res
namespace Cls

/-- A leaf in a box, and both tables. -/
structure Lx (w wk : World) (g : Nat) (ao : Option Addr) (n cap : Nat) (P : Nat → Nat → Bool) (K : Int) : Prop where
  bel : Below w.heap.size w wk
  c : wk.cell? ⟨g, 0, none⟩ = some (.slice ao n cap) ∧ wk.cell? ⟨g, 1, none⟩ = some (.int .i64 K)
  l : Lf wk ao n P
  ta : Tab wk
  tb : TabB wk

theorem Lx.grow {w wk w' : World} {g : Nat} {ao : Option Addr} {n cap : Nat} {P : Nat → Nat → Bool} {K : Int} (h : Lx w wk g ao n cap P K) (b : Below wk.heap.size wk w') : Lx w w' g ao n cap P K :=
  ⟨h.bel.trans (b.mono h.bel.size), two_below h.c b (World.block_lt_of_cell? wk _ h.c.1), h.l.grow b, tab_grow h.ta b, h.tb.grow b⟩

theorem Lx.drewN {w wk : World} {g : Nat} {ao : Option Addr} {n cap : Nat} {P : Nat → Nat → Bool} {K : Int} (h : Lx w wk g ao n cap P K) (q : Nat) : Lx w (wk.drewN q) g ao n cap P K :=
  ⟨below_drewN h.bel q, h.c, h.l.drewN q, h.ta, h.tb⟩

/-- Two classes. -/
def p2 (f g : Nat → Bool) : Nat → Nat → Bool := fun t => if t = 0 then f else g

def o8 (f g : Nat → Bool) : Obj := .cells #[.int .u64 ((wd f 0 : Nat) : Int), .int .u64 ((wd f 1 : Nat) : Int), .int .u64 ((wd f 2 : Nat) : Int), .int .u64 ((wd f 3 : Nat) : Int), .int .u64 ((wd g 0 : Nat) : Int), .int .u64 ((wd g 1 : Nat) : Int), .int .u64 ((wd g 2 : Nat) : Int), .int .u64 ((wd g 3 : Nat) : Int)] 24

theorem lf8 (v : World) (f g : Nat → Bool) : Lf (v.alloc (o8 f g)) (some ⟨v.heap.size, 0, none⟩) 2 (p2 f g) := by
  refine ⟨by omega, fun _ => ⟨v.heap.size, 0, rfl, by rw [al_size]; omega, fun t ht k hk => ?_⟩⟩
  have hb : (v.alloc (o8 f g)).heap[v.heap.size]? = some (o8 f g) := by show (v.heap.push _)[v.heap.size]? = _; simp
  unfold World.cell?
  rw [hb]
  match t, ht with
  | 0, _ =>
    show _ = some (Value.int .u64 ((wd f k : Nat) : Int))
    match k, hk with
    | 0, _ => rfl
    | 1, _ => rfl
    | 2, _ => rfl
    | 3, _ => rfl
  | 1, _ =>
    show _ = some (Value.int .u64 ((wd g k : Nat) : Int))
    match k, hk with
    | 0, _ => rfl
    | 1, _ => rfl
    | 2, _ => rfl
    | 3, _ => rfl

theorem lf4 (v : World) (f : Nat → Bool) : Lf (v.alloc (.cells #[.int .u64 ((wd (f) 0 : Nat) : Int), .int .u64 ((wd (f) 1 : Nat) : Int), .int .u64 ((wd (f) 2 : Nat) : Int), .int .u64 ((wd (f) 3 : Nat) : Int)] 24)) (some ⟨v.heap.size, 0, none⟩) 1 (fun _ => f) :=
  ⟨by omega, fun _ => ⟨v.heap.size, 0, rfl, by rw [al_size]; omega, fun t ht k hk => by
    obtain rfl : t = 0 := by omega
    rw [Nat.zero_mul, Nat.zero_add]
    obtain ⟨v', bx⟩ := box v f
    have hf := bx.fam k hk
    rw [bx.eq, Nat.zero_add] at hf
    exact hf⟩⟩

theorem lit1 (v : World) (a : Nat) : Is (v.alloc (.cells #[.int .i64 (a : Int)] 3)) (some ⟨v.heap.size, 0, none⟩) [a] := fun _ => by
  refine ⟨v.heap.size, rfl, by rw [World.size_alloc]; omega, fun t ht => ?_⟩
  have hb : (v.alloc (.cells #[.int .i64 (a : Int)] 3)).heap[v.heap.size]? = some (.cells #[.int .i64 (a : Int)] 3) := World.alloc_heap_new v _
  unfold World.cell?
  rw [hb]
  match t, ht with
  | 0, _ => rfl

theorem litU2 (v : World) (a b : Int) : Lies (v.alloc (.cells #[.int .u64 a, .int .u64 b] 22)) (some ⟨v.heap.size, 0, none⟩) 2 (lst [a, b]) := fun _ => ⟨v.heap.size, 0, rfl, fam_lit v [a, b] 22⟩

def tabc : ByteArray := ⟨#[97, 98, 99]⟩
def ta1 : ByteArray := ⟨#[97]⟩

set_option maxRecDepth 4000 in
set_option maxHeartbeats 4000000 in
theorem alive10_core (fb fF fab : Nat → Bool)
    (hOb : ∀ w : World, Calls Tryd.prog 24 #[.string ⟨#[98]⟩] w fun e w' => e = .returned (.agg #[.int .u64 ((wd (fb) 0 : Nat) : Int), .int .u64 ((wd (fb) 1 : Nat) : Int), .int .u64 ((wd (fb) 2 : Nat) : Int), .int .u64 ((wd (fb) 3 : Nat) : Int)]) ∧ Below w.heap.size w w')
    (hOab : ∀ w : World, Calls Tryd.prog 24 #[.string ⟨#[97, 98]⟩] w fun e w' => e = .returned (.agg #[.int .u64 ((wd (fab) 0 : Nat) : Int), .int .u64 ((wd (fab) 1 : Nat) : Int), .int .u64 ((wd (fab) 2 : Nat) : Int), .int .u64 ((wd (fab) 3 : Nat) : Int)]) ∧ Below w.heap.size w w')
    (hF : ∀ w : World, Calls Tryd.prog 25 #[] w fun e w' => e = .returned (.agg #[.int .u64 ((wd (fF) 0 : Nat) : Int), .int .u64 ((wd (fF) 1 : Nat) : Int), .int .u64 ((wd (fF) 2 : Nat) : Int), .int .u64 ((wd (fF) 3 : Nat) : Int)]) ∧ Below w.heap.size w w')
    (hTx : ∀ w : World, Calls Tryd.prog 23 #[.string ⟨#[97]⟩, .int .i64 1] w fun e w' => (∃ bo d, e = .returned (.agg #[.slice bo 1 d, .int .i64 1]) ∧ Lf w' bo 1 (tx ta1)) ∧ Below w.heap.size w w')
    (hS : ∀ (gs : Nat) (w : World), Tab w → TabB w → Lf w (some ⟨gs, 0, none⟩) 2 (p2 fb fF) → Calls Tryd.prog 15 #[.agg #[.slice (some ⟨gs, 0, none⟩) 2 2, .int .i64 0], .string ⟨#[97, 98, 99]⟩, .int .i64 4] w fun e w' => (∃ so sc, e = .returned (.tuple #[.slice so 2 sc, .int .i64 18, .int .i64 0]) ∧ Lies w' so 2 (lst [99, 0])) ∧ Below w.heap.size w w')
    (hFi : ∀ (gs : Nat) (w : World), Tab w → TabB w → Lf w (some ⟨gs, 0, none⟩) 2 (p2 fb fF) → Calls Tryd.prog 18 #[.agg #[.slice (some ⟨gs, 0, none⟩) 2 2, .int .i64 0], .string ⟨#[97, 98, 99]⟩, .int .i64 4] w fun e w' => (∃ so sc, e = .returned (.tuple #[.slice so 1 sc, .int .i64 18, .int .i64 0]) ∧ Is w' so [1]) ∧ Below w.heap.size w w')
    (hFt : ∀ (bo : Option Addr) (d : Nat) (w : World), Tab w → TabB w → Lf w bo 1 (tx ta1) → Calls Tryd.prog 18 #[.agg #[.slice bo 1 d, .int .i64 1], .string ⟨#[97]⟩, .int .i64 1] w fun e w' => (∃ so sc, e = .returned (.tuple #[.slice so 0 sc, .int .i64 0, .int .i64 170])) ∧ Below w.heap.size w w')
    (hSab : ∀ v : World, Tab v → TabB v → Calls Tryd.prog 15 #[.agg #[.slice (some ⟨v.heap.size, 0, none⟩) 1 1, .int .i64 0], .string ⟨#[97]⟩, .int .i64 1] (v.alloc (.cells #[.int .u64 ((wd (fab) 0 : Nat) : Int), .int .u64 ((wd (fab) 1 : Nat) : Int), .int .u64 ((wd (fab) 2 : Nat) : Int), .int .u64 ((wd (fab) 3 : Nat) : Int)] 24)) fun e w' => (∃ so sc, e = .returned (.tuple #[.slice so 0 sc, .int .i64 0, .int .i64 170])) ∧ Below v.heap.size v w')
    (hSz : ∀ (gs : Nat) (w : World), Tab w → TabB w → Lf w (some ⟨gs, 0, none⟩) 2 (p2 fb fF) → Calls Tryd.prog 15 #[.agg #[.slice (some ⟨gs, 0, none⟩) 2 2, .int .i64 0], .string ⟨#[97, 98, 99]⟩, .int .i64 1] w fun e w' => (∃ so sc, e = .returned (.tuple #[.slice so 0 sc, .int .i64 0, .int .i64 50])) ∧ Below w.heap.size w w')
    (hV : ∀ w : World, TabB w → Calls Tryd.prog 11 #[.agg #[.int .u64 ((wd (fb) 0 : Nat) : Int), .int .u64 ((wd (fb) 1 : Nat) : Int), .int .u64 ((wd (fb) 2 : Nat) : Int), .int .u64 ((wd (fb) 3 : Nat) : Int)]] w fun e w' => e = .returned (.int .u64 99) ∧ Below w.heap.size w w')
    (hVF : ∀ w : World, TabB w → Calls Tryd.prog 11 #[.agg #[.int .u64 ((wd (fF) 0 : Nat) : Int), .int .u64 ((wd (fF) 1 : Nat) : Int), .int .u64 ((wd (fF) 2 : Nat) : Int), .int .u64 ((wd (fF) 3 : Nat) : Int)]] w fun e w' => e = .returned (.int .u64 0) ∧ Below w.heap.size w w')
    (hW : ∀ (gs : Nat) (w : World), TabB w → Lf w (some ⟨gs, 0, none⟩) 2 (p2 fb fF) → Calls Tryd.prog 13 #[.agg #[.slice (some ⟨gs, 0, none⟩) 2 2, .int .i64 0]] w fun e w' => e = .returned (.int .u64 970299) ∧ Below w.heap.size w w')
    (w : World) (hA : Tab w) (hT : TabB w) : Calls Tryd.prog 10 #[] w fun e w' => e = .returned (.bool true) ∧ Below w.heap.size w w' := by
  have HOb : Hid _ := hOb
  have HOab : Hid _ := hOab
  have HF : Hid _ := hF
  have HTx : Hid _ := hTx
  have HS : Hid _ := hS
  have HFi : Hid _ := hFi
  have HFt : Hid _ := hFt
  have HSab : Hid _ := hSab
  have HSz : Hid _ := hSz
  have HV : Hid _ := hV
  have HVF : Hid _ := hVF
  have HW : Hid _ := hW
  have HT : Hid (Tab w ∧ TabB w) := ⟨hA, hT⟩
  have HSm : Hid (∀ (G : Nat → Int) (ao bo : Option Addr) (ca cb : Nat) (w : World), Lies w ao 2 G → Lies w bo 2 G → Calls Tryd.prog 17 #[.slice ao 2 ca, .slice bo 2 cb] w fun e w' => e = .returned (.bool true) ∧ ∃ q, w' = w.drewN q) := fun G ao bo ca cb w h1 h2 => same_lies 2 (by omega) ao bo ca cb G G (fun _ _ => rfl) w h1 h2
  have HP : Hid (∀ (ao bo : Option Addr) (d c : Nat) (w : World), Is w ao [1] → Is w bo [1] → Calls Tryd.prog 20 #[.slice ao 1 d, .slice bo 1 c] w fun e w' => e = .returned (.bool true) ∧ Below w.heap.size w w') := fun ao bo d c w ha hb => by
    have h := places_any [1] [1] d c ao bo w ha hb (by decide) (by decide)
    rw [eqi_same] at h
    exact h
  clear hOb hOab hF hTx hS hFi hFt hSab hSz hV hVF hW hA hT
  have c1 : Hid _ := HOb.out w
  go_enter Tryd.func10, Tryd.ntmps10
  go_wp2_with fail
  refine Calls.mono (Hid.out c1) ?_; rintro e w1 ⟨rfl, b1⟩
  have c2 : Hid _ := HF.out w1
  have B1 : Hid (Below w.heap.size w w1) := b1
  clear b1 c1
  go_wp2_with fail
  refine Calls.mono (Hid.out c2) ?_; rintro e w2 ⟨rfl, b2⟩
  have B2 : Hid (Below w.heap.size w w2) := B1.out.trans (b2.mono B1.out.size)
  obtain ⟨w3, e3⟩ : ∃ w3, w3 = w2.alloc (o8 fb fF) := ⟨_, rfl⟩
  have E3 : Hid _ := e3
  have l3 : Lf w3 (some ⟨w2.heap.size, 0, none⟩) 2 (p2 fb fF) := by rw [e3]; exact lf8 w2 fb fF
  have p3 : Below w2.heap.size w2 w3 := by rw [e3]; exact al_below _ _
  have b3 : Below w.heap.size w w3 := B2.out.trans (p3.mono B2.out.size)
  obtain ⟨w4, x4⟩ := lbox w3 (.slice (some ⟨w2.heap.size, 0, none⟩) 2 2) (.int .i64 0)
  have E4 : Hid _ := x4.eq
  have b4 : Below w.heap.size w w4 := b3.trans (x4.bel.mono b3.size)
  have A4 : Hid (Lx w w4 w3.heap.size (some ⟨w2.heap.size, 0, none⟩) 2 2 (p2 fb fF) 0) := ⟨b4, ⟨x4.c0, x4.c1⟩, l3.grow x4.bel, tab_grow HT.out.1 b4, HT.out.2.grow b4⟩
  have HS3 : Hid (w2.heap.size + 1 = w3.heap.size) := by show _ = _; rw [e3, al_size]
  have c4' : Hid _ := HS.out w2.heap.size w4 A4.out.ta A4.out.tb A4.out.l
  clear b2 c2 e3 l3 p3 b3 x4 b4 B1 B2
  obtain ⟨k0, k1⟩ := A4.out.c
  unfold o8 at E3
  go_wp2_with (first | rw [← E3.out, ← E4.out, HS3.out])
  refine Calls.mono (Hid.out c4') ?_; rintro e w5 ⟨⟨so, sc, rfl, ls⟩, b5⟩
  have A5 : Hid _ := A4.out.grow b5
  have LS5 : Hid (Lies w5 so 2 (lst [99, 0])) := ls
  have c5 : Hid _ := HFi.out w2.heap.size w5 A5.out.ta A5.out.tb A5.out.l
  clear k0 k1 b5 ls c4' A4 E3 E4 HS3 HS HFi
  generalize w2.heap.size = gs at *
  generalize w3.heap.size = g at *
  obtain ⟨k0, k1⟩ := A5.out.c
  go_wp2_with fail
  refine Calls.mono (Hid.out c5) ?_; rintro e w6 ⟨⟨fo, fc, rfl, is⟩, b6⟩
  have A6 : Hid _ := A5.out.grow b6
  have LS6 : Hid (Lies w6 so 2 (lst [99, 0])) := LS5.out.below b6 (Nat.le_refl _)
  have IS6 : Hid (Is w6 fo [1]) := is
  have c6 : Hid _ := HTx.out w6
  clear k0 k1 b6 is c5 A5 LS5 HTx
  go_wp2_with fail
  refine Calls.mono (Hid.out c6) ?_; rintro e w7 ⟨⟨bo, d, rfl, l7⟩, b7⟩
  have A7 : Hid _ := A6.out.grow b7
  have LS7 : Hid (Lies w7 so 2 (lst [99, 0])) := LS6.out.below b7 (Nat.le_refl _)
  have IS7 : Hid (Is w7 fo [1]) := IS6.out.grow b7
  have c7 : Hid _ := HFt.out bo d w7 A7.out.ta A7.out.tb l7
  clear b7 c6 A6 LS6 IS6 HFt l7
  go_wp2_with fail
  refine Calls.mono (Hid.out c7) ?_; rintro e w8 ⟨⟨ro, rc, rfl⟩, b8⟩
  have A8 : Hid _ := A7.out.grow b8
  have LS8 : Hid (Lies w8 so 2 (lst [99, 0])) := LS7.out.below b8 (Nat.le_refl _)
  have IS8 : Hid (Is w8 fo [1]) := IS7.out.grow b8
  have c8 : Hid _ := HOab.out w8
  clear b8 c7 A7 LS7 IS7 HOab
  go_wp2_with fail
  refine Calls.mono (Hid.out c8) ?_; rintro e w9 ⟨rfl, b9⟩
  have A9 : Hid _ := A8.out.grow b9
  have LS9 : Hid (Lies w9 so 2 (lst [99, 0])) := LS8.out.below b9 (Nat.le_refl _)
  have IS9 : Hid (Is w9 fo [1]) := IS8.out.grow b9
  have c9 : Hid _ := HSab.out w9 A9.out.ta A9.out.tb
  clear b9 c8 A8 LS8 IS8 HSab
  go_wp2_with fail
  refine Calls.mono (Hid.out c9) ?_; rintro e w10 ⟨⟨ro2, rc2, rfl⟩, b10⟩
  have A10 : Hid _ := A9.out.grow b10
  have LS10 : Hid (Lies w10 so 2 (lst [99, 0])) := LS9.out.below b10 (Nat.le_refl _)
  have IS10 : Hid (Is w10 fo [1]) := IS9.out.grow b10
  have c10 : Hid _ := HSz.out gs w10 A10.out.ta A10.out.tb A10.out.l
  clear b10 c9 A9 LS9 IS9 HSz
  obtain ⟨k0, k1⟩ := A10.out.c
  go_wp2_with fail
  refine Calls.mono (Hid.out c10) ?_; rintro e w11 ⟨⟨ro3, rc3, rfl⟩, b11⟩
  have A11 : Hid _ := A10.out.grow b11
  have IS11 : Hid (Is w11 fo [1]) := IS10.out.grow b11
  have LS11 : Hid (Lies w11 so 2 (lst [99, 0])) := LS10.out.below b11 (Nat.le_refl _)
  obtain ⟨w12, e12⟩ : ∃ w12, w12 = w11.alloc (.cells #[.int .u64 99, .int .u64 0] 22) := ⟨_, rfl⟩
  have E12 : Hid _ := e12
  have p12 : Below w11.heap.size w11 w12 := by rw [e12]; exact al_below _ _
  have A12 : Hid _ := A11.out.grow p12
  have IS12 : Hid (Is w12 fo [1]) := IS11.out.grow p12
  have LX : Lies w12 (some ⟨w11.heap.size, 0, none⟩) 2 (lst [99, 0]) := by rw [e12]; exact litU2 w11 99 0
  have c12 : Hid _ := fun ca cb => HSm.out (lst [99, 0]) so (some ⟨w11.heap.size, 0, none⟩) ca cb w12 (LS11.out.below p12 (Nat.le_refl _)) LX
  clear k0 k1 b11 c10 A10 LS10 IS10 e12 p12 LX A11 LS11 IS11 HSm
  go_wp2_with (first | rw [← E12.out])
  refine Calls.mono (c12.out _ _) ?_; rintro e w13 ⟨rfl, q, rfl⟩
  have A13 : Hid _ := A12.out.drewN q
  have IS13 : Hid (Is (w12.drewN q) fo [1]) := IS12.out
  clear A12 IS12 c12 E12
  generalize w12.drewN q = w13 at *
  generalize w11.heap.size = g11 at *
  obtain ⟨w14, e14⟩ : ∃ w14, w14 = w13.alloc (.cells #[.int .i64 1] 3) := ⟨_, rfl⟩
  have E14 : Hid _ := e14
  have p14 : Below w13.heap.size w13 w14 := by rw [e14]; exact al_below _ _
  have A14 : Hid _ := A13.out.grow p14
  have c14 : Hid _ := fun d c => HP.out fo (some ⟨w13.heap.size, 0, none⟩) d c w14 (IS13.out.grow p14) (by rw [e14]; exact lit1 w13 1)
  clear A13 IS13 e14 p14 HP
  go_wp2_with (first | rw [← E14.out])
  refine Calls.mono (c14.out _ _) ?_; rintro e w15 ⟨rfl, b15⟩
  have A15 : Hid _ := A14.out.grow b15
  have c15 : Hid _ := HOb.out w15
  clear b15 c14 A14 E14
  go_wp2_with fail
  refine Calls.mono (Hid.out c15) ?_; rintro e w16 ⟨rfl, b16⟩
  have A16 : Hid _ := A15.out.grow b16
  have c16 : Hid _ := HV.out w16 A16.out.tb
  clear b16 c15 A15
  go_wp2_with fail
  refine Calls.mono (Hid.out c16) ?_; rintro e w17 ⟨rfl, b17⟩
  have A17 : Hid _ := A16.out.grow b17
  have c17 : Hid _ := HF.out w17
  clear b17 c16 A16
  go_wp2_with fail
  refine Calls.mono (Hid.out c17) ?_; rintro e w18 ⟨rfl, b18⟩
  have A18 : Hid _ := A17.out.grow b18
  have c18 : Hid _ := HVF.out w18 A18.out.tb
  clear b18 c17 A17
  go_wp2_with fail
  refine Calls.mono (Hid.out c18) ?_; rintro e w19 ⟨rfl, b19⟩
  have A19 : Hid _ := A18.out.grow b19
  have c19 : Hid _ := HW.out gs w19 A19.out.tb A19.out.l
  clear b19 c18 A18
  obtain ⟨k0, k1⟩ := A19.out.c
  go_wp2_with fail
  refine Calls.mono (Hid.out c19) ?_; rintro e w20 ⟨rfl, b20⟩
  have A20 : Hid _ := A19.out.grow b20
  clear b20 c19 A19 k0 k1
  go_wp2_with fail
  go_ret
  exact ⟨rfl, A20.out.bel⟩

theorem vl_b7 : vl fb7 = 99 := by
  rw [vl_one sg_b7, (sg_one (b := 98) (by omega) (fun x _ => fb7_at x)).2]

theorem vl_f7 : vl ff7 = 0 := vl_none sg_f7

def pal10 : Nat → Nat → Bool := p2 fb7 ff7

theorem two_cases {p : Nat → Prop} (h0 : p 0) (h1 : p 1) : ∀ t, t < 2 → p t
  | 0, _ => h0
  | 1, _ => h1

theorem wok10 : wok pal10 2 0 = true := by
  have h1 : emp pal10 2 = false := any_range_no (q := fun t => sm (pal10 t) (fun _ => false)) (two_cases em_b7 em_f7)
  have h2 : pln pal10 2 = true := all_range (q := fun t => sg (pal10 t) || fr (pal10 t)) (two_cases (by show (sg fb7 || _) = true; rw [sg_b7]; rfl) (by show (_ || fr ff7) = true; rw [fr_f7]; simp))
  unfold wok
  rw [rgt_yes (by omega), h1, h2]
  rfl

theorem q10 : we pal10 2 0 3 4 = 0 ∧ wn pal10 2 0 3 4 = 2 ∧ wq pal10 2 0 3 4 = 18 := by
  obtain ⟨e1, e2, e3⟩ := we_ok (m := 3) (z := 4) wok10 (Or.inr (by decide))
  exact ⟨e1, e2, by rw [e3]; decide⟩

theorem q10s : we pal10 2 0 3 1 = 50 ∧ wn pal10 2 0 3 1 = 0 ∧ wq pal10 2 0 3 1 = 0 := we_size (m := 3) (z := 1) wok10 (by omega) (by decide)

theorem ws10 (i : Nat) : ws pal10 tabc i 2 = wt 99 ((byt tabc i : Int) + 1) + wt 0 ((byt tabc (i + 1) : Int) + 1) := by
  rw [ws_succ, ws_succ, ws_zero]
  show 0 + wt (vl fb7) _ + wt (vl ff7) _ = _
  rw [vl_b7, vl_f7, Int.zero_add]
  rfl

theorem ws10_0 : ws pal10 tabc 0 2 = 99 := by rw [ws10]; decide
theorem ws10_1 : ws pal10 tabc 1 2 = 0 := by rw [ws10]; decide

theorem hts10 : hts (fun i => ws pal10 tabc i 2) 0 2 = [1] := by
  rw [hts_yes (n := 1) (by show ws pal10 tabc 1 2 ≤ 0; rw [ws10_1]; omega), hts_no (n := 0) (by show ¬ ws pal10 tabc 0 2 ≤ 0; rw [ws10_0]; omega), hts_zero]
  rfl

theorem wg10 : wg pal10 2 = 970299 := by
  rw [wg_succ, wg_succ, wg_zero]
  show 0 + (vl fb7 : Int) * (vl fb7) * (vl fb7) + (vl ff7 : Int) * (vl ff7) * (vl ff7) = _
  rw [vl_b7, vl_f7]
  rfl

theorem alive10_any (w : World) (hA : Tab w) (hT : TabB w) : Calls Tryd.prog 10 #[] w fun e w' => e = .returned (.bool true) ∧ Below w.heap.size w w' :=
  alive10_core fb7 ff7 fab7 (fun w => of_any ⟨#[98]⟩ (by decide) w) (fun w => of_any ⟨#[97, 98]⟩ (by decide) w) full_any
    (fun w => text_any ta1 1 w (by decide))
    (fun gs w hA hT hl => (wsums_any pal10 2 2 (some ⟨gs, 0, none⟩) 0 4 tabc (by decide) w hA hT hl).mono (by
      rintro e w' ⟨so, sc, rfl, hs, hb⟩
      rw [show tabc.size = 3 from rfl, q10.2.1] at hs
      rw [show tabc.size = 3 from rfl, q10.1, q10.2.1, q10.2.2]
      refine ⟨⟨so, sc, rfl, fun h => ?_⟩, hb⟩
      obtain ⟨b, o, e, hf⟩ := hs h
      exact ⟨b, o, e, hf.congr (two_cases ws10_0 ws10_1)⟩))
    (fun gs w hA hT hl => (wfind_any pal10 2 2 (some ⟨gs, 0, none⟩) 0 4 tabc (by decide) w hA hT hl).mono (by
      rintro e w' ⟨⟨so, sc, rfl, hs⟩, hb⟩
      have e1 : wf pal10 2 0 tabc 4 = [1] := by
        unfold wf
        rw [if_pos rfl, show tabc.size = 3 from rfl, q10.2.1, hts10]
      have e2 : wfq pal10 2 0 tabc.size 4 = 18 := by unfold wfq; rw [if_pos rfl]; exact q10.2.2
      have e3 : wfe pal10 2 0 tabc.size 4 = 0 := by unfold wfe; rw [if_pos rfl]; exact q10.1
      rw [e1] at hs
      rw [e1, e2, e3]
      exact ⟨⟨so, sc, rfl, hs⟩, hb⟩))
    (fun bo d w hA hT hl => (wfind_any (tx ta1) 1 d bo 1 1 ta1 (by decide) w hA hT hl).mono (by
      rintro e w' ⟨⟨so, sc, rfl, _⟩, hb⟩
      have e1 : wf (tx ta1) 1 1 ta1 1 = [] := by unfold wf; rw [if_neg (by decide)]
      have e2 : wfq (tx ta1) 1 1 ta1.size 1 = 0 := by unfold wfq; rw [if_neg (by decide)]
      have e3 : wfe (tx ta1) 1 1 ta1.size 1 = 170 := by unfold wfe; rw [if_neg (by decide)]
      rw [e1, e2, e3]
      exact ⟨⟨so, sc, rfl⟩, hb⟩))
    (fun v hA hT => by
      have bl := al_below v (.cells #[.int .u64 ((wd (fab7) 0 : Nat) : Int), .int .u64 ((wd (fab7) 1 : Nat) : Int), .int .u64 ((wd (fab7) 2 : Nat) : Int), .int .u64 ((wd (fab7) 3 : Nat) : Int)] 24)
      have h := wsums_any (fun _ => fab7) 1 1 (some ⟨v.heap.size, 0, none⟩) 0 1 ta1 (by decide) _ (tab_grow hA bl) (hT.grow bl) (lf4 v fab7)
      have hw : wok (fun _ => fab7) 1 0 = false := by
        unfold wok
        rw [show pln (fun _ => fab7) 1 = false from all_range_no (q := fun _ => sg fab7 || fr fab7) (t := 0) (by omega) (by rw [sg_ab7, fr_ab7]; rfl), Bool.and_false]
      obtain ⟨e1, e2, e3⟩ := we_form (m := ta1.size) (z := 1) hw
      rw [e1, e2, e3] at h
      exact h.mono (by rintro e w' ⟨so, sc, rfl, _, hb⟩; exact ⟨⟨so, sc, rfl⟩, bl.trans (hb.mono bl.size)⟩))
    (fun gs w hA hT hl => (wsums_any pal10 2 2 (some ⟨gs, 0, none⟩) 0 1 tabc (by decide) w hA hT hl).mono (by
      rintro e w' ⟨so, sc, rfl, _, hb⟩
      rw [show tabc.size = 3 from rfl, q10s.1, q10s.2.1, q10s.2.2]
      exact ⟨⟨so, sc, rfl⟩, hb⟩))
    (fun w hT => (value_any fb7 w hT).mono (by rintro e w' ⟨rfl, hb⟩; rw [vl_b7]; exact ⟨rfl, hb⟩))
    (fun w hT => (value_any ff7 w hT).mono (by rintro e w' ⟨rfl, hb⟩; rw [vl_f7]; exact ⟨rfl, hb⟩))
    (fun gs w hT hl => (weight_any pal10 2 2 (some ⟨gs, 0, none⟩) 0 (by omega) w hT hl).mono (by rintro e w' ⟨rfl, hb⟩; rw [wg10]; exact ⟨rfl, hb⟩))
    w hA hT

set_option maxHeartbeats 1000000 in
theorem few10_any (n cap : Nat) (ao : Option Addr) (K : Int) (s : ByteArray) (hs : s.size < 9223372036854775808) (hn : n ≤ 9223372036854775807) (w : World) :
    Calls Tryd.prog 9 #[.agg #[.slice ao n cap, .int .i64 K], .string s] w fun e w' => e = .returned (.bool (decide (n ≤ 100 ∧ s.size ≤ 300))) ∧ Below w.heap.size w w' := by
  obtain ⟨w1, b1⟩ := lbox w (.slice ao n cap) (.int .i64 K)
  have E1 : Hid _ := b1.eq
  have B1 : Hid (Below w.heap.size w w1) := b1.bel
  have c0 := b1.c0
  clear b1
  by_cases h1 : n ≤ 100
  · have h1I : (n : Int) ≤ 100 := by omega
    by_cases h2 : s.size ≤ 300
    · have h2I : (s.size : Int) ≤ 300 := by omega
      have e : Hid (decide (n ≤ 100 ∧ s.size ≤ 300) = true) := decide_eq_true ⟨h1, h2⟩
      go_enter Tryd.func9, Tryd.ntmps9
      go_wp2_with (first | rw [← E1.out])
      go_ret
      exact ⟨by first | rfl | (rw [e.out]; rfl), B1.out⟩
    · have h2I : ¬ (s.size : Int) ≤ 300 := by omega
      have e : Hid (decide (n ≤ 100 ∧ s.size ≤ 300) = false) := decide_eq_false (fun h => h2 h.2)
      go_enter Tryd.func9, Tryd.ntmps9
      go_wp2_with (first | rw [← E1.out])
      go_ret
      exact ⟨by first | rfl | (rw [e.out]; rfl), B1.out⟩
  · have h1I : ¬ (n : Int) ≤ 100 := by omega
    have e : Hid (decide (n ≤ 100 ∧ s.size ≤ 300) = false) := decide_eq_false (fun h => h1 h.1)
    go_enter Tryd.func9, Tryd.ntmps9
    go_wp2_with (first | rw [← E1.out])
    go_ret
    exact ⟨by first | rfl | (rw [e.out]; rfl), B1.out⟩

end Cls
end Go.Proofs.YtbojmkkpgglhhaaDoor
