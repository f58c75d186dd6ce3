/- Contracts of beaglelaw08.alive: it tells true; nothing that was there turns; and of beaglelaw08.few. -/
import Derived.Test.YtpogipingefkaaaNvFst
import Derived.Test.YtpogipingefkaaaNvCnt
import Derived.Test.YtpogipingefkaaaNvRef
import Derived.Test.YtpogipingefkaaaLfA
namespace Go.Proofs.Ytpogipingefkaaa
open Go.RowKit Go.Shelf
namespace Cls

theorem tx_byt (s : ByteArray) (t : Nat) (h : t < s.size) (x : Nat) : tx s t x = (x == byt s t) := by
  rw [byt_at s t h]
  unfold tx inS
  have hd : (s.extract t (t + 1)).data.toList = [s[t]'h] := by
    rw [ByteArray.data_extract]
    have ht : t < s.data.size := h
    apply List.ext_getElem?
    intro i
    rw [Array.toList_extract, List.extract_eq_take_drop]
    by_cases hi : i = 0
    · subst hi
      simp
      exact Array.getElem?_eq_getElem ht
    · rw [List.getElem?_eq_none (by simp; omega), List.getElem?_eq_none (by simp; omega)]
  have hl : (s.extract t (t + 1)).size = 1 := by rw [ByteArray.size_extract]; omega
  rw [hd, hl]
  simp only [List.take_succ_cons, List.take_zero, List.any_cons, List.any_nil, Bool.or_false]
  exact BEq.comm

theorem rgt_tx (s : ByteArray) (K : Int) (h1 : 1 ≤ s.size) (h2 : s.size ≤ 64) (h3 : 0 ≤ K) (h4 : K ≤ 64) : rgt (tx s) s.size K = true := by
  rw [rgt_yes ⟨h1, h2, h3, h4⟩]
  have e : emp (tx s) s.size = false := by
    unfold emp
    rw [List.any_eq_false]
    intro t ht
    have ht' : t < s.size := by simpa using ht
    intro hh
    have h5 := (sm_iff _ _).1 hh (byt s t) (byt_lt s t)
    rw [tx_byt s t ht'] at h5
    simp at h5
  rw [e]
  rfl

/-- How many letters part. -/
theorem mis_tx (u s : ByteArray) (i m : Nat) (hm : m ≤ u.size) : mis (tx u) s i m = ((List.range m).filter fun t => !(byt s (i + t) == byt u t)).length := by
  induction m with
  | zero => rw [mis_zero]; rfl
  | succ m ih =>
    rw [mis_succ, ih (by omega), tx_byt u m (by omega), List.range_succ, List.filter_append, List.length_append]
    congr 1
    cases h : (byt s (i + m) == byt u m) <;> simp [h]

def tab : ByteArray := ⟨#[97, 98]⟩
def tb : ByteArray := ⟨#[98]⟩
def tabbb : ByteArray := ⟨#[97, 98, 98, 98]⟩
def tabab : ByteArray := ⟨#[97, 98, 97, 98]⟩

theorem mtab (i : Nat) : mis (tx tab) tabbb i 2 = ((List.range 2).filter fun t => !(byt tabbb (i + t) == byt tab t)).length := mis_tx tab tabbb i 2 (by decide)
theorem mtb (i : Nat) : mis (tx tb) tabab i 1 = ((List.range 1).filter fun t => !(byt tabab (i + t) == byt tb t)).length := mis_tx tb tabab i 1 (by decide)
theorem stab : stn (tx tab) 2 1 tabbb.size = 3 := stn_yes (rgt_tx tab 1 (by decide) (by decide) (by decide) (by decide)) (by decide)
theorem stb : stn (tx tb) 1 0 tabab.size = 4 := stn_yes (rgt_tx tb 0 (by decide) (by decide) (by decide) (by decide)) (by decide)
theorem q2 : ata (tx tab) 2 1 tabbb 2 = true ∧ atv (tx tab) 2 1 tabbb 2 = 1 := by
  have h : ata (tx tab) 2 1 tabbb 2 = true := by unfold ata; rw [stab]; decide
  refine ⟨h, ?_⟩
  unfold atv
  rw [if_pos h, show (2 : Int).toNat = 2 from rfl, mtab]
  decide
theorem q3 : ata (tx tab) 2 1 tabbb 3 = false ∧ atv (tx tab) 2 1 tabbb 3 = 0 := by
  have h : ata (tx tab) 2 1 tabbb 3 = false := by unfold ata; rw [stab]; decide
  refine ⟨h, ?_⟩
  unfold atv
  rw [if_neg (by rw [h]; decide)]
theorem qc : cts (tx tab) 2 1 tabbb = [0, 1, 1] := by
  unfold cts
  rw [stab]
  simp only [mtab]
  decide
theorem qf : fnd (tx tab) 2 1 tabbb = [0, 1, 2] := by
  rw [fnd_hts, stab]
  unfold hts
  simp only [mtab]
  decide
theorem qb : fnd (tx tb) 1 0 tabab = [1, 3] := by
  rw [fnd_hts, stb]
  unfold hts
  simp only [mtb]
  decide

def c201 : Nat → Int := fun t => if t = 0 then 2 else if t = 1 then 0 else 1
theorem qh : hts c201 1 3 = [1, 2] := by decide
theorem q0 (P : Nat → Nat → Bool) (s : ByteArray) : cts P 0 0 s = [] := by
  unfold cts
  rw [stn_no (fun h => by have := (rgt_len h.1).1; omega)]
  rfl

theorem lit3 (v : World) (a b c : Nat) : Is (v.alloc (.cells #[.int .i64 (a : Int), .int .i64 (b : Int), .int .i64 (c : Int)] 3)) (some ⟨v.heap.size, 0, none⟩) [a, b, c] := fun _ => by
  refine ⟨v.heap.size, rfl, by rw [World.size_alloc]; omega, fun t ht => ?_⟩
  have hb : (v.alloc (.cells #[.int .i64 (a : Int), .int .i64 (b : Int), .int .i64 (c : Int)] 3)).heap[v.heap.size]? = some (.cells #[.int .i64 (a : Int), .int .i64 (b : Int), .int .i64 (c : Int)] 3) := World.alloc_heap_new v _
  unfold World.cell?
  rw [hb]
  match t, ht with
  | 0, _ => rfl
  | 1, _ => rfl
  | 2, _ => rfl

theorem lit2 (v : World) (a b : Nat) : Is (v.alloc (.cells #[.int .i64 (a : Int), .int .i64 (b : Int)] 3)) (some ⟨v.heap.size, 0, none⟩) [a, b] := fun _ => by
  refine ⟨v.heap.size, rfl, by rw [World.size_alloc]; omega, fun t ht => ?_⟩
  have hb : (v.alloc (.cells #[.int .i64 (a : Int), .int .i64 (b : Int)] 3)).heap[v.heap.size]? = some (.cells #[.int .i64 (a : Int), .int .i64 (b : Int)] 3) := World.alloc_heap_new v _
  unfold World.cell?
  rw [hb]
  match t, ht with
  | 0, _ => rfl
  | 1, _ => rfl

theorem eqi_same (L : List Nat) : eqi L L = true := by unfold eqi; simp

set_option maxHeartbeats 1000000 in
theorem few08_any (n cap : Nat) (ao : Option Addr) (K : Int) (s : ByteArray) (hs : s.size < 9223372036854775808) (hn : n ≤ 9223372036854775807) (w : World) :
    Calls Try.prog 9 #[.agg #[.slice ao n cap, .int .i64 K], .string s] w fun e w' => e = .returned (.bool (decide (n ≤ 100 ∧ s.size ≤ 300))) ∧ Below w.heap.size w w' := by
  obtain ⟨w1, b1⟩ := lbox w (.slice ao n cap) (.int .i64 K)
  have E1 : Hid _ := b1.eq
  have B1 : Hid (Below w.heap.size w w1) := b1.bel
  have c0 := b1.c0
  clear b1
  by_cases h1 : n ≤ 100
  · have h1I : (n : Int) ≤ 100 := by omega
    by_cases h2 : s.size ≤ 300
    · have h2I : (s.size : Int) ≤ 300 := by omega
      have e : Hid (decide (n ≤ 100 ∧ s.size ≤ 300) = true) := decide_eq_true ⟨h1, h2⟩
      go_enter Try.func9, Try.ntmps9
      go_wp2_with (first | rw [← E1.out])
      go_ret
      exact ⟨by first | rfl | (rw [e.out]; rfl), B1.out⟩
    · have h2I : ¬ (s.size : Int) ≤ 300 := by omega
      have e : Hid (decide (n ≤ 100 ∧ s.size ≤ 300) = false) := decide_eq_false (fun h => h2 h.2)
      go_enter Try.func9, Try.ntmps9
      go_wp2_with (first | rw [← E1.out])
      go_ret
      exact ⟨by first | rfl | (rw [e.out]; rfl), B1.out⟩
  · have h1I : ¬ (n : Int) ≤ 100 := by omega
    have e : Hid (decide (n ≤ 100 ∧ s.size ≤ 300) = false) := decide_eq_false (fun h => h1 h.1)
    go_enter Try.func9, Try.ntmps9
    go_wp2_with (first | rw [← E1.out])
    go_ret
    exact ⟨by first | rfl | (rw [e.out]; rfl), B1.out⟩

/-- The leaf of two letters, in its box. -/
structure Alv (w v : World) (g : Nat) (bo : Option Addr) (d : Nat) : Prop where
  bel : Below w.heap.size w v
  c0 : v.cell? ⟨g, 0, none⟩ = some (.slice bo 2 d)
  c1 : v.cell? ⟨g, 1, none⟩ = some (.int .i64 1)
  lf : Lf v bo 2 (tx tab)

theorem Alv.grow {w v v' : World} {g d : Nat} {bo : Option Addr} (h : Alv w v g bo d) (hb : Below v.heap.size v v') : Alv w v' g bo d :=
  ⟨h.bel.trans (hb.mono h.bel.size), (hb.cell (p := ⟨g, 0, none⟩) (lt_of_cell h.c0)).trans h.c0, (hb.cell (p := ⟨g, 1, none⟩) (lt_of_cell h.c0)).trans h.c1, h.lf.grow hb⟩

theorem Alv.alloc {w v : World} {g d : Nat} {bo : Option Addr} (h : Alv w v g bo d) (o : Obj) : Alv w (v.alloc o) g bo d := h.grow ((Below.refl _ _).alloc (Nat.le_refl _) _)

set_option maxRecDepth 4000 in
set_option maxHeartbeats 4000000 in
theorem alive08_any (w : World) : Calls Try.prog 10 #[] w fun e w' => e = .returned (.bool true) ∧ Below w.heap.size w w' := by
  have hTx : Hid (∀ w : World, Calls Try.prog 24 #[.string ⟨#[97, 98]⟩, .int .i64 1] w fun e w' => (∃ bo d, e = .returned (.agg #[.slice bo 2 d, .int .i64 1]) ∧ Lf w' bo 2 (tx tab)) ∧ Below w.heap.size w w') := fun w => text_any tab 1 w (by decide)
  have hTb : Hid (∀ w : World, Calls Try.prog 24 #[.string ⟨#[98]⟩, .int .i64 0] w fun e w' => (∃ bo d, e = .returned (.agg #[.slice bo 1 d, .int .i64 0]) ∧ Lf w' bo 1 (tx tb)) ∧ Below w.heap.size w w') := fun w => text_any tb 0 w (by decide)
  have hA2 : Hid (∀ (bo : Option Addr) (d : Nat) (w : World), Lf w bo 2 (tx tab) → Calls Try.prog 11 #[.agg #[.slice bo 2 d, .int .i64 1], .string ⟨#[97, 98, 98, 98]⟩, .int .i64 2] w fun e w' => e = .returned (.tuple #[.int .i64 1, .bool true]) ∧ Below w.heap.size w w') := fun bo d w h => (at_any (tx tab) 2 d bo 1 tabbb 2 (by decide) w h).mono (fun e w' ⟨he, hb⟩ => ⟨by rw [he, q2.1, q2.2]; rfl, hb⟩)
  have hA3 : Hid (∀ (bo : Option Addr) (d : Nat) (w : World), Lf w bo 2 (tx tab) → Calls Try.prog 11 #[.agg #[.slice bo 2 d, .int .i64 1], .string ⟨#[97, 98, 98, 98]⟩, .int .i64 3] w fun e w' => e = .returned (.tuple #[.int .i64 0, .bool false]) ∧ Below w.heap.size w w') := fun bo d w h => (at_any (tx tab) 2 d bo 1 tabbb 3 (by decide) w h).mono (fun e w' ⟨he, hb⟩ => ⟨by rw [he, q3.1, q3.2]; rfl, hb⟩)
  have hF2 : Hid (∀ (bo : Option Addr) (d : Nat) (w : World), Lf w bo 1 (tx tb) → Calls Try.prog 16 #[.agg #[.slice bo 1 d, .int .i64 0], .string ⟨#[97, 98, 97, 98]⟩, .int .i64 2] w fun e w' => e = .returned (.tuple #[.int .i64 3, .bool true]) ∧ Below w.heap.size w w') := fun bo d w h => (first_any (tx tb) 1 d bo 0 2 tabab (by decide) (by decide) w h).mono (fun e w' ⟨he, hb⟩ => ⟨by rw [he, qb]; rfl, hb⟩)
  have hF4 : Hid (∀ (bo : Option Addr) (d : Nat) (w : World), Lf w bo 1 (tx tb) → Calls Try.prog 16 #[.agg #[.slice bo 1 d, .int .i64 0], .string ⟨#[97, 98, 97, 98]⟩, .int .i64 4] w fun e w' => e = .returned (.tuple #[.int .i64 0, .bool false]) ∧ Below w.heap.size w w') := fun bo d w h => (first_any (tx tb) 1 d bo 0 4 tabab (by decide) (by decide) w h).mono (fun e w' ⟨he, hb⟩ => ⟨by rw [he, qb]; rfl, hb⟩)
  have hC : Hid (∀ (bo : Option Addr) (d : Nat) (w : World), Lf w bo 2 (tx tab) → Calls Try.prog 14 #[.agg #[.slice bo 2 d, .int .i64 1], .string ⟨#[97, 98, 98, 98]⟩] w fun e w' => (∃ co c, e = .returned (.slice co 3 c) ∧ Is w' co [0, 1, 1]) ∧ Below w.heap.size w w') := fun bo d w h => (counts_any (tx tab) 2 d bo 1 tabbb (by decide) w h).mono (fun e w' he => by rw [qc] at he; obtain ⟨⟨co, c, rfl, hi, _⟩, hb⟩ := he; exact ⟨⟨co, c, rfl, hi⟩, hb⟩)
  have hF : Hid (∀ (bo : Option Addr) (d : Nat) (w : World), Lf w bo 2 (tx tab) → Calls Try.prog 18 #[.agg #[.slice bo 2 d, .int .i64 1], .string ⟨#[97, 98, 98, 98]⟩] w fun e w' => (∃ co c, e = .returned (.slice co 3 c) ∧ Is w' co [0, 1, 2]) ∧ Below w.heap.size w w') := fun bo d w h => (find_any (tx tab) 2 d bo 1 tabbb (by decide) w h).mono (fun e w' he => by rw [qf] at he; obtain ⟨⟨co, c, rfl, hi, _⟩, hb⟩ := he; exact ⟨⟨co, c, rfl, hi⟩, hb⟩)
  have hH : Hid (∀ v : World, Calls Try.prog 20 #[.slice (some ⟨v.heap.size, 0, none⟩) 3 3, .int .i64 1] (v.alloc (.cells #[.int .i64 2, .int .i64 0, .int .i64 1] 3)) fun e w' => (∃ co c, e = .returned (.slice co 2 c) ∧ Is w' co [1, 2]) ∧ Below v.heap.size v w') := fun v => by
    have hi : Ir (v.alloc (.cells #[.int .i64 2, .int .i64 0, .int .i64 1] 3)) (some ⟨v.heap.size, 0, none⟩) 3 c201 := fun _ => by
      obtain ⟨b, e, hlt, hc⟩ := lit3 v 2 0 1 (by decide)
      cases e
      refine ⟨v.heap.size, 0, rfl, hlt, fun t ht => ?_⟩
      have h := hc t ht
      rw [Nat.zero_add]
      match t, ht with
      | 0, _ => exact h
      | 1, _ => exact h
      | 2, _ => exact h
    refine (hits_any c201 1 3 3 _ (by decide) _ hi).mono (fun e w' he => ?_)
    rw [qh] at he
    obtain ⟨⟨co, c, rfl, hi, _⟩, hb⟩ := he
    exact ⟨⟨co, c, rfl, hi⟩, ((Below.refl _ v).alloc (Nat.le_refl _) _).trans (hb.mono (by rw [World.size_alloc]; omega))⟩
  have h0 : Hid (∀ w : World, Calls Try.prog 14 #[.agg #[.slice none 0 0, .int .i64 0], .string ⟨#[97, 98]⟩] w fun e w' => (∃ co c, e = .returned (.slice co 0 c)) ∧ Below w.heap.size w w') := fun w => (counts_any (fun _ _ => false) 0 0 none 0 tab (by decide) w ⟨by decide, fun h => by omega⟩).mono (fun e w' he => by rw [q0] at he; obtain ⟨⟨co, c, rfl, _⟩, hb⟩ := he; exact ⟨⟨co, c, rfl⟩, hb⟩)
  have hP : Hid (∀ (L : List Nat) (m : Nat) (ao bo : Option Addr) (d c : Nat) (w : World), L.length = m → m ≤ 10 → Is w ao L → Is w bo L → Calls Try.prog 13 #[.slice ao m d, .slice bo m c] w fun e w' => e = .returned (.bool true) ∧ Below w.heap.size w w') := fun L m ao bo d c w hm h10 ha hb => by
    subst hm
    have h := places_any L L d c ao bo w ha hb (by omega) (by omega)
    rw [eqi_same] at h
    exact h
  have c1 : Hid _ := hTx.out w
  go_enter Try.func10, Try.ntmps10
  go_wp2_with fail
  refine Calls.mono (Hid.out c1) ?_; rintro e w1 ⟨⟨bo, d, rfl, l1⟩, b1⟩
  obtain ⟨w2, x2⟩ := lbox w1 (.slice bo 2 d) (.int .i64 1)
  have E2 : Hid _ := x2.eq
  have A2 : Hid (Alv w w2 w1.heap.size bo d) := ⟨b1.trans (x2.bel.mono b1.size), x2.c0, x2.c1, l1.grow x2.bel⟩
  have c2 : Hid _ := hA2.out bo d w2 A2.out.lf
  have k0 := A2.out.c0
  have k1 := A2.out.c1
  clear l1 b1 x2 c1
  go_wp2_with (first | rw [← E2.out])
  refine Calls.mono (Hid.out c2) ?_; rintro e w3 ⟨rfl, b3⟩
  have A3 : Hid (Alv w w3 w1.heap.size bo d) := A2.out.grow b3
  have c3 : Hid _ := hA3.out bo d w3 A3.out.lf
  clear k0 k1 b3 c2 A2 E2
  have k0 := A3.out.c0
  have k1 := A3.out.c1
  generalize w1.heap.size = g at *
  go_wp2_with fail
  refine Calls.mono (Hid.out c3) ?_; rintro e w4 ⟨rfl, b4⟩
  have A4 : Hid (Alv w w4 g bo d) := A3.out.grow b4
  have c4' : Hid _ := hTb.out w4
  clear k0 k1 b4 c3 A3
  go_wp2_with fail
  refine Calls.mono (Hid.out c4') ?_; rintro e w5 ⟨⟨b5, d5, rfl, l5⟩, e5⟩
  have A5 : Hid (Alv w w5 g bo d) := A4.out.grow e5
  have c5 : Hid _ := hF2.out b5 d5 w5 l5
  clear e5 l5 c4' A4
  go_wp2_with fail
  refine Calls.mono (Hid.out c5) ?_; rintro e w6 ⟨rfl, b6⟩
  have A6 : Hid (Alv w w6 g bo d) := A5.out.grow b6
  have c6 : Hid _ := hTb.out w6
  clear b6 c5 A5
  go_wp2_with fail
  refine Calls.mono (Hid.out c6) ?_; rintro e w7 ⟨⟨b7, d7, rfl, l7⟩, e7⟩
  have A7 : Hid (Alv w w7 g bo d) := A6.out.grow e7
  have c7 : Hid _ := hF4.out b7 d7 w7 l7
  clear e7 l7 c6 A6
  go_wp2_with fail
  refine Calls.mono (Hid.out c7) ?_; rintro e w8 ⟨rfl, b8⟩
  have A8 : Hid (Alv w w8 g bo d) := A7.out.grow b8
  have c8 : Hid _ := hC.out bo d w8 A8.out.lf
  clear b8 c7 A7
  have k0 := A8.out.c0
  have k1 := A8.out.c1
  go_wp2_with fail
  refine Calls.mono (Hid.out c8) ?_; rintro e w9 ⟨⟨o9, d9, rfl, i9⟩, b9⟩
  have A9 : Hid (Alv w w9 g bo d) := A8.out.grow b9
  obtain ⟨v9, e9⟩ : ∃ v9, v9 = w9.alloc (.cells #[.int .i64 0, .int .i64 1, .int .i64 1] 3) := ⟨_, rfl⟩
  have E9 : Hid _ := e9
  have p9 : Below w9.heap.size w9 v9 := by rw [e9]; exact (Below.refl _ _).alloc (Nat.le_refl _) _
  have c9 : Hid _ := hP.out [0, 1, 1] 3 o9 (some ⟨w9.heap.size, 0, none⟩) d9 3 v9 rfl (by decide) (i9.grow p9) (by rw [e9]; exact lit3 w9 0 1 1)
  have A9' : Hid (Alv w v9 g bo d) := A9.out.grow p9
  clear k0 k1 b9 i9 c8 A8 e9 p9 A9
  go_wp2_with (first | rw [← E9.out])
  refine Calls.mono (Hid.out c9) ?_; rintro e w10 ⟨rfl, b10⟩
  have A10 : Hid (Alv w w10 g bo d) := A9'.out.grow b10
  have c10 : Hid _ := hF.out bo d w10 A10.out.lf
  clear b10 c9 A9' E9
  have k0 := A10.out.c0
  have k1 := A10.out.c1
  generalize w9.heap.size = g9 at *
  go_wp2_with fail
  refine Calls.mono (Hid.out c10) ?_; rintro e w11 ⟨⟨o11, d11, rfl, i11⟩, b11⟩
  have A11 : Hid (Alv w w11 g bo d) := A10.out.grow b11
  obtain ⟨v11, e11⟩ : ∃ v11, v11 = w11.alloc (.cells #[.int .i64 0, .int .i64 1, .int .i64 2] 3) := ⟨_, rfl⟩
  have E11 : Hid _ := e11
  have p11 : Below w11.heap.size w11 v11 := by rw [e11]; exact (Below.refl _ _).alloc (Nat.le_refl _) _
  have c11 : Hid _ := hP.out [0, 1, 2] 3 o11 (some ⟨w11.heap.size, 0, none⟩) d11 3 v11 rfl (by decide) (i11.grow p11) (by rw [e11]; exact lit3 w11 0 1 2)
  have A11' : Hid (Alv w v11 g bo d) := A11.out.grow p11
  clear k0 k1 b11 i11 c10 A10 e11 p11 A11
  go_wp2_with (first | rw [← E11.out])
  refine Calls.mono (Hid.out c11) ?_; rintro e w12 ⟨rfl, b12⟩
  have A12 : Hid (Alv w w12 g bo d) := A11'.out.grow b12
  have c12 : Hid _ := hH.out w12
  clear b12 c11 A11' E11
  generalize w11.heap.size = g11 at *
  go_wp2_with fail
  refine Calls.mono (Hid.out c12) ?_; rintro e w13 ⟨⟨o13, d13, rfl, i13⟩, b13⟩
  have A13 : Hid (Alv w w13 g bo d) := A12.out.grow b13
  obtain ⟨v13, e13⟩ : ∃ v13, v13 = w13.alloc (.cells #[.int .i64 1, .int .i64 2] 3) := ⟨_, rfl⟩
  have E13 : Hid _ := e13
  have p13 : Below w13.heap.size w13 v13 := by rw [e13]; exact (Below.refl _ _).alloc (Nat.le_refl _) _
  have c13 : Hid _ := hP.out [1, 2] 2 o13 (some ⟨w13.heap.size, 0, none⟩) d13 2 v13 rfl (by decide) (i13.grow p13) (by rw [e13]; exact lit2 w13 1 2)
  have A13' : Hid (Alv w v13 g bo d) := A13.out.grow p13
  clear b13 i13 c12 A12 e13 p13 A13
  go_wp2_with (first | rw [← E13.out])
  refine Calls.mono (Hid.out c13) ?_; rintro e w14 ⟨rfl, b14⟩
  have A14 : Hid (Alv w w14 g bo d) := A13'.out.grow b14
  have c14 : Hid _ := h0.out w14
  clear b14 c13 A13' E13
  go_wp2_with fail
  refine Calls.mono (Hid.out c14) ?_; rintro e w15 ⟨⟨o15, d15, rfl⟩, b15⟩
  have A15 : Hid (Alv w w15 g bo d) := A14.out.grow b15
  clear b15 c14 A14
  go_wp2_with fail
  go_ret
  exact ⟨rfl, A15.out.bel⟩

end Cls
end Go.Proofs.Ytpogipingefkaaa
