/- Contract of beaglelaw09.alive: it tells true; nothing that was there turns. -/
import Derived.Test.YtgdjllfolfiboaaDoorZdLeaf
import Derived.Test.YtgdjllfolfiboaaDoorZdPer
import Derived.Test.YtgdjllfolfiboaaDoorZdRef
import Derived.Test.YtgdjllfolfiboaaDoorNvAl
import Derived.Test.YtgdjllfolfiboaaDoorNvLaw
import Derived.Test.YtgdjllfolfiboaaDoorLfAliveI
import Derived.Test.YtgdjllfolfiboaaDoorLfA
namespace Go.Proofs.YtgdjllfolfiboaaDoor
open Go.RowKit
namespace Cls

def zaa : ByteArray := ⟨#[97, 97]⟩

def zaaab : ByteArray := ⟨#[97, 97, 97, 98]⟩

def zaabaa : ByteArray := ⟨#[97, 97, 98, 97, 97]⟩

def zabab : ByteArray := ⟨#[97, 98, 97, 98]⟩

def zab : ByteArray := ⟨#[97, 98]⟩

def za : ByteArray := ⟨#[97]⟩

def ze : ByteArray := ⟨#[]⟩

theorem zq1 : rwl zaabaa = [5, 1, 0, 2, 1] := by decide

theorem zq2 : fdl zaa zaaab = [0, 1] := by decide

theorem zq3 : fdl ze za = [] := fdl_no rfl

theorem zq4 : Pd zabab 2 := Or.inr ⟨by decide, by decide, (per_zr (by decide)).2 (by decide), fun q h1 h2 h => by
  obtain rfl : q = 1 := by omega
  exact absurd ((per_zr (by decide)).1 h) (by decide)⟩

theorem zq5 : Pd zab 2 := Or.inr ⟨by decide, by decide, per_size zab, fun q h1 h2 h => by
  obtain rfl : q = 1 := by omega
  exact absurd ((per_zr (by decide)).1 h) (by decide)⟩

theorem zq6 : Pd ze 0 := Or.inl ⟨rfl, rfl⟩

theorem zq7 : zok (tx zaa) 2 0 = true := by
  unfold zok
  rw [show rgt (tx zaa) 2 0 = true from rgt_tx zaa 0 (by decide) (by decide) (by decide) (by decide), show als (tx zaa) 2 = true from als_tx zaa]
  rfl

theorem zq8 : zok (tx zaa) 2 1 = false := by
  unfold zok
  rw [decide_eq_false (by decide), Bool.and_false, Bool.false_and]

theorem zq9 : zfd (tx zaa) 2 0 zaaab = [0, 1] := by
  rw [zfd_yes zq7, show ltx (tx zaa) 2 = zaa from ltx_tx zaa]
  exact zq2

theorem lit5 (v : World) (a b c d e : Nat) : Is (v.alloc (.cells #[.int .i64 (a : Int), .int .i64 (b : Int), .int .i64 (c : Int), .int .i64 (d : Int), .int .i64 (e : Int)] 3)) (some ⟨v.heap.size, 0, none⟩) [a, b, c, d, e] := fun _ => by
  refine ⟨v.heap.size, rfl, by rw [World.size_alloc]; omega, fun t ht => ?_⟩
  have hb : (v.alloc (.cells #[.int .i64 (a : Int), .int .i64 (b : Int), .int .i64 (c : Int), .int .i64 (d : Int), .int .i64 (e : Int)] 3)).heap[v.heap.size]? = some (.cells #[.int .i64 (a : Int), .int .i64 (b : Int), .int .i64 (c : Int), .int .i64 (d : Int), .int .i64 (e : Int)] 3) := World.alloc_heap_new v _
  unfold World.cell?
  rw [hb]
  match t, ht with
  | 0, _ => rfl
  | 1, _ => rfl
  | 2, _ => rfl
  | 3, _ => rfl
  | 4, _ => rfl

/-- On the way of alive. -/
structure Az (w v : World) (fo : Option Addr) : Prop where
  bel : Below w.heap.size w v
  tab : TabB v
  f : Is v fo [0, 1]

theorem Az.grow {w v v' : World} {fo : Option Addr} (h : Az w v fo) (hb : Below v.heap.size v v') : Az w v' fo := ⟨h.bel.trans (hb.mono h.bel.size), h.tab.grow hb, h.f.grow hb⟩

set_option maxRecDepth 4000 in
set_option maxHeartbeats 4000000 in
theorem alive09_any (w : World) (hT : TabB w) : Calls Tryd.prog 9 #[] w fun e w' => e = .returned (.bool true) ∧ Below w.heap.size w w' := by
  have hTx : Hid (∀ (K : Int) (w : World), Calls Tryd.prog 20 #[.string ⟨#[97, 97]⟩, .int .i64 K] w fun e w' => (∃ bo d, e = .returned (.agg #[.slice bo 2 d, .int .i64 K]) ∧ Lf w' bo 2 (tx zaa)) ∧ Below w.heap.size w w') := fun K w => text_any zaa K w (by decide)
  have hL0 : Hid (∀ (bo : Option Addr) (d : Nat) (w : World), TabB w → Lf w bo 2 (tx zaa) → Calls Tryd.prog 15 #[.agg #[.slice bo 2 d, .int .i64 0], .string ⟨#[97, 97, 97, 98]⟩] w fun e w' => (∃ co c, e = .returned (.tuple #[.slice co 2 c, .bool true]) ∧ Is w' co [0, 1]) ∧ Below w.heap.size w w') := fun bo d w h1 h2 => by
    have h := leaf09_any (tx zaa) 2 d bo 0 zaaab (by decide) w h1 h2
    rw [zq7, zq9] at h
    exact h
  have hL1 : Hid (∀ (bo : Option Addr) (d : Nat) (w : World), TabB w → Lf w bo 2 (tx zaa) → Calls Tryd.prog 15 #[.agg #[.slice bo 2 d, .int .i64 1], .string ⟨#[97, 97, 97, 98]⟩] w fun e w' => (∃ co c, e = .returned (.tuple #[.slice co 0 c, .bool false])) ∧ Below w.heap.size w w') := fun bo d w h1 h2 => by
    have h := leaf09_any (tx zaa) 2 d bo 1 zaaab (by decide) w h1 h2
    rw [zq8, zfd_no zq8] at h
    exact h.mono (fun e w' ⟨⟨co, c, he, _⟩, hb⟩ => ⟨⟨co, c, he⟩, hb⟩)
  have hR : Hid (∀ w : World, Calls Tryd.prog 11 #[.string ⟨#[97, 97, 98, 97, 97]⟩] w fun e w' => (∃ co c, e = .returned (.slice co 5 c) ∧ Is w' co [5, 1, 0, 2, 1]) ∧ Below w.heap.size w w') := fun w => by
    have h := rows_any zaabaa (by decide) w
    rw [zq1] at h
    exact h.mono (fun e w' ⟨⟨co, c, he, hi, _⟩, hb⟩ => ⟨⟨co, c, he, hi⟩, hb⟩)
  have hF : Hid (∀ w : World, Calls Tryd.prog 13 #[.string ⟨#[97, 97]⟩, .string ⟨#[97, 97, 97, 98]⟩] w fun e w' => (∃ co c, e = .returned (.slice co 2 c) ∧ Is w' co [0, 1]) ∧ Below w.heap.size w w') := fun w => by
    have h := find09_any zaa zaaab (by decide) (by decide) w
    rw [zq2] at h
    exact h.mono (fun e w' ⟨⟨co, c, he, hi, _⟩, hb⟩ => ⟨⟨co, c, he, hi⟩, hb⟩)
  have hF0 : Hid (∀ w : World, Calls Tryd.prog 13 #[.string ⟨#[]⟩, .string ⟨#[97]⟩] w fun e w' => (∃ co c, e = .returned (.slice co 0 c)) ∧ Below w.heap.size w w') := fun w => by
    have h := find09_any ze za (by decide) (by decide) w
    rw [zq3] at h
    exact h.mono (fun e w' ⟨⟨co, c, he, _⟩, hb⟩ => ⟨⟨co, c, he⟩, hb⟩)
  have hP4 : Hid (∀ w : World, Calls Tryd.prog 18 #[.string ⟨#[97, 98, 97, 98]⟩] w fun e w' => e = .returned (.int .i64 2) ∧ Below w.heap.size w w') := fun w => period_any zabab (by decide) 2 zq4 w
  have hP2 : Hid (∀ w : World, Calls Tryd.prog 18 #[.string ⟨#[97, 98]⟩] w fun e w' => e = .returned (.int .i64 2) ∧ Below w.heap.size w w') := fun w => period_any zab (by decide) 2 zq5 w
  have hP0 : Hid (∀ w : World, Calls Tryd.prog 18 #[.string ⟨#[]⟩] w fun e w' => e = .returned (.int .i64 0) ∧ Below w.heap.size w w') := fun w => period_any ze (by decide) 0 zq6 w
  have hP : Hid (∀ (L : List Nat) (m : Nat) (ao bo : Option Addr) (d c : Nat) (w : World), L.length = m → m ≤ 10 → Is w ao L → Is w bo L → Calls Tryd.prog 10 #[.slice ao m d, .slice bo m c] w fun e w' => e = .returned (.bool true) ∧ Below w.heap.size w w') := fun L m ao bo d c w hm h10 ha hb => places_same L m hm (by omega) ao bo d c w ha hb
  have HT : Hid (TabB w) := hT
  have c1 : Hid _ := hTx.out 0 w
  clear hT
  go_enter Tryd.func9, Tryd.ntmps9
  go_wp2_with fail
  refine Calls.mono (Hid.out c1) ?_; rintro e w1 ⟨⟨bo, d, rfl, l1⟩, b1⟩
  have c2 : Hid _ := hL0.out bo d w1 (HT.out.grow b1) l1
  have B1 : Hid _ := b1
  clear c1 l1 b1
  go_wp2_with fail
  refine Calls.mono (Hid.out c2) ?_; rintro e w2 ⟨⟨fo, fd, rfl, l2⟩, b2⟩
  have A2 : Hid (Az w w2 fo) := ⟨B1.out.trans (b2.mono B1.out.size), (HT.out.grow B1.out).grow b2, l2⟩
  have c3 : Hid _ := hTx.out 1 w2
  clear c2 l2 b2 B1 HT
  go_wp2_with fail
  refine Calls.mono (Hid.out c3) ?_; rintro e w3 ⟨⟨bo3, d3, rfl, l3⟩, b3⟩
  have A3 : Hid (Az w w3 fo) := A2.out.grow b3
  have c4' : Hid _ := hL1.out bo3 d3 w3 A3.out.tab l3
  clear c3 l3 b3 A2
  go_wp2_with fail
  refine Calls.mono (Hid.out c4') ?_; rintro e w4 ⟨⟨co4, d4, rfl⟩, b4⟩
  have A4 : Hid (Az w w4 fo) := A3.out.grow b4
  have c5 : Hid _ := hR.out w4
  clear c4' b4 A3
  go_wp2_with fail
  refine Calls.mono (Hid.out c5) ?_; rintro e w5 ⟨⟨o5, d5, rfl, i5⟩, b5⟩
  have A5 : Hid (Az w w5 fo) := A4.out.grow b5
  obtain ⟨v5, e5⟩ : ∃ v5, v5 = w5.alloc (.cells #[.int .i64 5, .int .i64 1, .int .i64 0, .int .i64 2, .int .i64 1] 3) := ⟨_, rfl⟩
  have E5 : Hid _ := e5
  have p5 : Below w5.heap.size w5 v5 := by rw [e5]; exact (Below.refl _ _).alloc (Nat.le_refl _) _
  have c6 : Hid _ := hP.out [5, 1, 0, 2, 1] 5 o5 (some ⟨w5.heap.size, 0, none⟩) d5 5 v5 rfl (by decide) (i5.grow p5) (by rw [e5]; exact lit5 w5 5 1 0 2 1)
  have A5' : Hid (Az w v5 fo) := A5.out.grow p5
  clear b5 i5 c5 A4 e5 p5 A5
  go_wp2_with (first | rw [← E5.out])
  refine Calls.mono (Hid.out c6) ?_; rintro e w6 ⟨rfl, b6⟩
  have A6 : Hid (Az w w6 fo) := A5'.out.grow b6
  have c7 : Hid _ := hF.out w6
  clear b6 c6 A5' E5
  generalize w5.heap.size = g5 at *
  go_wp2_with fail
  refine Calls.mono (Hid.out c7) ?_; rintro e w7 ⟨⟨o7, d7, rfl, i7⟩, b7⟩
  have A7 : Hid (Az w w7 fo) := A6.out.grow b7
  obtain ⟨v7, e7⟩ : ∃ v7, v7 = w7.alloc (.cells #[.int .i64 0, .int .i64 1] 3) := ⟨_, rfl⟩
  have E7 : Hid _ := e7
  have p7 : Below w7.heap.size w7 v7 := by rw [e7]; exact (Below.refl _ _).alloc (Nat.le_refl _) _
  have c8 : Hid _ := hP.out [0, 1] 2 o7 (some ⟨w7.heap.size, 0, none⟩) d7 2 v7 rfl (by decide) (i7.grow p7) (by rw [e7]; exact lit2 w7 0 1)
  have A7' : Hid (Az w v7 fo) := A7.out.grow p7
  clear b7 i7 c7 A6 e7 p7 A7
  go_wp2_with (first | rw [← E7.out])
  refine Calls.mono (Hid.out c8) ?_; rintro e w8 ⟨rfl, b8⟩
  have A8 : Hid (Az w w8 fo) := A7'.out.grow b8
  have c9 : Hid _ := hF0.out w8
  clear b8 c8 A7' E7
  generalize w7.heap.size = g7 at *
  go_wp2_with fail
  refine Calls.mono (Hid.out c9) ?_; rintro e w9 ⟨⟨o9, d9, rfl⟩, b9⟩
  have A9 : Hid (Az w w9 fo) := A8.out.grow b9
  have c10 : Hid _ := hP4.out w9
  clear b9 c9 A8
  go_wp2_with fail
  refine Calls.mono (Hid.out c10) ?_; rintro e w10 ⟨rfl, b10⟩
  have A10 : Hid (Az w w10 fo) := A9.out.grow b10
  have c11 : Hid _ := hP2.out w10
  clear b10 c10 A9
  go_wp2_with fail
  refine Calls.mono (Hid.out c11) ?_; rintro e w11 ⟨rfl, b11⟩
  have A11 : Hid (Az w w11 fo) := A10.out.grow b11
  have c12 : Hid _ := hP0.out w11
  clear b11 c11 A10
  go_wp2_with fail
  refine Calls.mono (Hid.out c12) ?_; rintro e w12 ⟨rfl, b12⟩
  have A12 : Hid (Az w w12 fo) := A11.out.grow b12
  obtain ⟨v12, e12⟩ : ∃ v12, v12 = w12.alloc (.cells #[.int .i64 0, .int .i64 1] 3) := ⟨_, rfl⟩
  have E12 : Hid _ := e12
  have p12 : Below w12.heap.size w12 v12 := by rw [e12]; exact (Below.refl _ _).alloc (Nat.le_refl _) _
  have c13 : Hid _ := hP.out [0, 1] 2 fo (some ⟨w12.heap.size, 0, none⟩) fd 2 v12 rfl (by decide) (A12.out.f.grow p12) (by rw [e12]; exact lit2 w12 0 1)
  have A12' : Hid (Az w v12 fo) := A12.out.grow p12
  clear b12 c12 A11 e12 p12 A12
  go_wp2_with (first | rw [← E12.out])
  refine Calls.mono (Hid.out c13) ?_; rintro e w13 ⟨rfl, b13⟩
  have A13 : Hid (Az w w13 fo) := A12'.out.grow b13
  clear b13 c13 A12' E12
  go_wp2_with fail
  go_ret
  exact ⟨rfl, A13.out.bel⟩

end Cls
end Go.Proofs.YtgdjllfolfiboaaDoor
