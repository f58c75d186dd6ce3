/- Contracts of beagleref13.Escape and item. (Written by mktk.py.) -/
import Derived.Test.YtbnnobeahliffaaGreatDoorTkGot
import Derived.Test.YtbnnobeahliffaaGreatDoorLfAl
set_option linter.unusedVariables false
namespace Go.Proofs.YtbnnobeahliffaaGreatDoor
open Go.RowKit
namespace Cls

/-- What is read of a byte, as a 'Got'. -/
def rdb : Rd Nat → Value
  | .ok (b, n) => gotv (b : Int) 0 0 0 0 (.slice none 0 0) 0 (n : Int) 0
  | .error (p, c) => gotv 0 0 0 0 0 (.slice none 0 0) 0 (p : Int) (c : Int)

/-- A box for what is got: it may be written. -/
structure Gb (w v : World) (g : Nat) : Prop where
  bel : Below w.heap.size w v
  low : w.heap.size ≤ g
  hi : g < v.heap.size
  c : ∃ v0 v1 v2 v3 v4 v5 v6 v7 v8, G9 v g v0 v1 v2 v3 v4 v5 v6 v7 v8
  f : ∀ t, v.frozen? ⟨g, t, none⟩ = false

theorem gb_new (w : World) : Gb w (w.alloc got0) w.heap.size := ⟨al_below _ _, Nat.le_refl _, by rw [al_size]; omega, ⟨_, _, _, _, _, _, _, _, _, g9_new w⟩, g9_free w⟩

theorem Gb.grow {w v v' : World} {g : Nat} (h : Gb w v g) (b : Below v.heap.size v v') : Gb w v' g := by
  obtain ⟨v0, v1, v2, v3, v4, v5, v6, v7, v8, hc⟩ := h.c
  have c := fun (t : Nat) => b.cell (p := ⟨g, t, none⟩) h.hi
  exact ⟨h.bel.trans (b.mono h.bel.size), h.low, Nat.lt_of_lt_of_le h.hi b.size, ⟨v0, v1, v2, v3, v4, v5, v6, v7, v8, (c 0).trans hc.c0, (c 1).trans hc.c1, (c 2).trans hc.c2, (c 3).trans hc.c3, (c 4).trans hc.c4, (c 5).trans hc.c5, (c 6).trans hc.c6, (c 7).trans hc.c7, (c 8).trans hc.c8⟩, fun t => by rw [b.frozen (p := ⟨g, t, none⟩) h.hi]; exact h.f t⟩

theorem Gb.drew {w v : World} {g : Nat} (h : Gb w v g) : Gb w v.drew g := h.grow (Below.drew (Below.refl _ _))

theorem Gb.keep {w v : World} {g : Nat} (h : Gb w v g) {v0 v1 v2 v3 v4 v5 v6 v7 v8 : Value} (hc : G9 v g v0 v1 v2 v3 v4 v5 v6 v7 v8) (v' : World) (b : Below v.heap.size v v') : G9 v' g v0 v1 v2 v3 v4 v5 v6 v7 v8 ∧ ∀ t, v'.frozen? ⟨g, t, none⟩ = false := by
  have c := fun (t : Nat) => b.cell (p := ⟨g, t, none⟩) h.hi
  exact ⟨⟨(c 0).trans hc.c0, (c 1).trans hc.c1, (c 2).trans hc.c2, (c 3).trans hc.c3, (c 4).trans hc.c4, (c 5).trans hc.c5, (c 6).trans hc.c6, (c 7).trans hc.c7, (c 8).trans hc.c8⟩, fun t => by rw [b.frozen (p := ⟨g, t, none⟩) h.hi]; exact h.f t⟩

theorem Gb.some {w v : World} {g : Nat} (h : Gb w v g) (v' : World) (b : Below v.heap.size v v') : ((v'.cell? ⟨g, 0, none⟩).isSome = true ∧ (v'.cell? ⟨g, 1, none⟩).isSome = true ∧ (v'.cell? ⟨g, 2, none⟩).isSome = true ∧ (v'.cell? ⟨g, 3, none⟩).isSome = true ∧ (v'.cell? ⟨g, 4, none⟩).isSome = true ∧ (v'.cell? ⟨g, 5, none⟩).isSome = true ∧ (v'.cell? ⟨g, 6, none⟩).isSome = true ∧ (v'.cell? ⟨g, 7, none⟩).isSome = true ∧ (v'.cell? ⟨g, 8, none⟩).isSome = true) ∧ ∀ t, v'.frozen? ⟨g, t, none⟩ = false := by
  obtain ⟨v0, v1, v2, v3, v4, v5, v6, v7, v8, hc⟩ := h.c
  obtain ⟨⟨c0, c1, c2, c3, c4, c5, c6, c7, c8⟩, hf⟩ := h.keep hc v' b
  exact ⟨⟨by rw [c0]; rfl, by rw [c1]; rfl, by rw [c2]; rfl, by rw [c3]; rfl, by rw [c4]; rfl, by rw [c5]; rfl, by rw [c6]; rfl, by rw [c7]; rfl, by rw [c8]; rfl⟩, hf⟩

theorem some_set {w : World} {p q : Addr} {x : Value} (h : (w.cell? q).isSome = true) : ((w.setCell p x).cell? q).isSome = true := by
  obtain ⟨u, hu⟩ := Option.isSome_iff_exists.1 h
  obtain ⟨v', h'⟩ := cell?_setCell_some (p := p) (x := x) hu
  rw [h']
  rfl

theorem Gb.set {w v : World} {g : Nat} (h : Gb w v g) (x0 x1 x2 x3 x4 x5 x6 x7 x8 : Value) : G9 (set9 v g x0 x1 x2 x3 x4 x5 x6 x7 x8) g x0 x1 x2 x3 x4 x5 x6 x7 x8 ∧ Below w.heap.size w (set9 v g x0 x1 x2 x3 x4 x5 x6 x7 x8) := by
  obtain ⟨v0, v1, v2, v3, v4, v5, v6, v7, v8, hc⟩ := h.c
  exact ⟨hc.set x0 x1 x2 x3 x4 x5 x6 x7 x8, set9_below h.bel h.low x0 x1 x2 x3 x4 x5 x6 x7 x8⟩

set_option maxRecDepth 100000 in
set_option maxHeartbeats 2000000 in
theorem escape13_sign (s : ByteArray) (q : Nat) (hs : s.size ≤ 1000000) (hq2 : q ≤ 2000000) (h1 : q + 1 < s.size) (h2 : escs.contains (byt s (q + 1)) = true) (w : World) :
    Calls Tryz.prog 99 #[.string s, .int .i64 (q : Int)] w fun e w' => e = .returned (rdb (.ok (byt s (q + 1), q + 2))) ∧ Below w.heap.size w w' := by
  obtain ⟨w1, e1⟩ : ∃ w1, w1 = w.alloc got0 := ⟨_, rfl⟩
  have hb := gb_new w
  rw [← e1] at hb
  have E1 : Hid (w1 = w.alloc (.cells #[.int .u8 0, .int .u64 0, .int .u64 0, .int .u64 0, .int .u64 0, .slice none 0 0, .int .i64 0, .int .i64 0, .int .i64 0] 80)) := e1
  have HB : Hid (Gb w w1 w.heap.size) := hb
  clear hb e1
  obtain ⟨v0, v1, v2, v3, v4, v5, v6, v7, v8, c0, c1, c2, c3, c4, c5, c6, c7, c8⟩ := HB.out.c
  have f0 := HB.out.f 0
  have f1 := HB.out.f 1
  have f2 := HB.out.f 2
  have f3 := HB.out.f 3
  have f4 := HB.out.f 4
  have f5 := HB.out.f 5
  have f6 := HB.out.f 6
  have f7 := HB.out.f 7
  have f8 := HB.out.f 8
  have h1I : (q : Int) + 1 < (s.size : Int) := by omega
  have hw1 : IntKind.i64.wrap ((q : Int) + 1) = (q : Int) + 1 := by rw [IntKind.wrap_i64]; omega
  have hw2 : IntKind.i64.wrap ((q : Int) + 2) = (q : Int) + 2 := by rw [IntKind.wrap_i64]; omega
  have hixx : ∀ w, (Instr.index 9 (.string s) (.int .i64 ((q : Int) + 1))).run Tryz.prog w = .ok (.int .u8 ((byt s (q + 1) : Nat) : Int)) w := fun w => by
    have := idx_str s (q + 1) (by omega) w
    rwa [show (((q + 1 : Nat) : Int)) = (q : Int) + 1 by omega] at this
  have CI : Hid _ := fun (v : World) => in13_any escT (byt s (q + 1)) (by decide) v
  rw [isin_esc, h2] at CI
  unfold escT at CI
  clear h2
  generalize byt s (q + 1) = x at *
  go_enter Tryz.func99, Tryz.ntmps99
  go_wp2_with (first | rw [← E1.out])
  refine Calls.mono (CI.out w1) ?_; rintro e w2 ⟨rfl, b2⟩
  have H2 : Hid (Gb w w2 w.heap.size) := HB.out.grow b2
  clear c0 c1 c2 c3 c4 c5 c6 c7 c8 f0 f1 f2 f3 f4 f5 f6 f7 f8
  clear b2 HB
  obtain ⟨v0, v1, v2, v3, v4, v5, v6, v7, v8, c0, c1, c2, c3, c4, c5, c6, c7, c8⟩ := H2.out.c
  have f0 := H2.out.f 0
  have f1 := H2.out.f 1
  have f2 := H2.out.f 2
  have f3 := H2.out.f 3
  have f4 := H2.out.f 4
  have f5 := H2.out.f 5
  have f6 := H2.out.f 6
  have f7 := H2.out.f 7
  have f8 := H2.out.f 8
  go_wp2_with fail
  refine bodyPost_ret (results_got rfl _ _ w.heap.size rfl (H2.out.set _ _ _ _ _ _ _ _ _).1) rfl ?_
  exact ⟨rfl, (H2.out.set _ _ _ _ _ _ _ _ _).2⟩

set_option maxRecDepth 100000 in
set_option maxHeartbeats 2000000 in
theorem escape13_short (s : ByteArray) (q : Nat) (hs : s.size ≤ 1000000) (hq2 : q ≤ 2000000) (h1 : s.size ≤ q + 1) (w : World) :
    Calls Tryz.prog 99 #[.string s, .int .i64 (q : Int)] w fun e w' => e = .returned (rdb (.error (q, 131))) ∧ Below w.heap.size w w' := by
  obtain ⟨w1, e1⟩ : ∃ w1, w1 = w.alloc got0 := ⟨_, rfl⟩
  have hb := gb_new w
  rw [← e1] at hb
  have E1 : Hid (w1 = w.alloc (.cells #[.int .u8 0, .int .u64 0, .int .u64 0, .int .u64 0, .int .u64 0, .slice none 0 0, .int .i64 0, .int .i64 0, .int .i64 0] 80)) := e1
  have HB : Hid (Gb w w1 w.heap.size) := hb
  clear hb e1
  obtain ⟨v0, v1, v2, v3, v4, v5, v6, v7, v8, c0, c1, c2, c3, c4, c5, c6, c7, c8⟩ := HB.out.c
  have f0 := HB.out.f 0
  have f1 := HB.out.f 1
  have f2 := HB.out.f 2
  have f3 := HB.out.f 3
  have f4 := HB.out.f 4
  have f5 := HB.out.f 5
  have f6 := HB.out.f 6
  have f7 := HB.out.f 7
  have f8 := HB.out.f 8
  have hw1 : IntKind.i64.wrap ((q : Int) + 1) = (q : Int) + 1 := by rw [IntKind.wrap_i64]; omega
  have hw2 : IntKind.i64.wrap ((q : Int) + 2) = (q : Int) + 2 := by rw [IntKind.wrap_i64]; omega
  have hw3 : IntKind.i64.wrap ((q : Int) + 3) = (q : Int) + 3 := by rw [IntKind.wrap_i64]; omega
  have h1I : ¬ (q : Int) + 1 < (s.size : Int) := by omega
  have h3I : ¬ (q : Int) + 3 < (s.size : Int) := by omega
  go_enter Tryz.func99, Tryz.ntmps99
  go_wp2_with (first | rw [← E1.out])
  refine bodyPost_ret (results_got rfl _ _ w.heap.size rfl (HB.out.set _ _ _ _ _ _ _ _ _).1) rfl ?_
  exact ⟨rfl, (HB.out.set _ _ _ _ _ _ _ _ _).2⟩

set_option maxRecDepth 100000 in
set_option maxHeartbeats 2000000 in
theorem escape13_near (s : ByteArray) (q : Nat) (hs : s.size ≤ 1000000) (hq2 : q ≤ 2000000) (h1 : q + 1 < s.size) (h2 : escs.contains (byt s (q + 1)) = false) (h3 : s.size ≤ q + 3) (w : World) :
    Calls Tryz.prog 99 #[.string s, .int .i64 (q : Int)] w fun e w' => e = .returned (rdb (.error (q, 131))) ∧ Below w.heap.size w w' := by
  obtain ⟨w1, e1⟩ : ∃ w1, w1 = w.alloc got0 := ⟨_, rfl⟩
  have hb := gb_new w
  rw [← e1] at hb
  have E1 : Hid (w1 = w.alloc (.cells #[.int .u8 0, .int .u64 0, .int .u64 0, .int .u64 0, .int .u64 0, .slice none 0 0, .int .i64 0, .int .i64 0, .int .i64 0] 80)) := e1
  have HB : Hid (Gb w w1 w.heap.size) := hb
  clear hb e1
  obtain ⟨v0, v1, v2, v3, v4, v5, v6, v7, v8, c0, c1, c2, c3, c4, c5, c6, c7, c8⟩ := HB.out.c
  have f0 := HB.out.f 0
  have f1 := HB.out.f 1
  have f2 := HB.out.f 2
  have f3 := HB.out.f 3
  have f4 := HB.out.f 4
  have f5 := HB.out.f 5
  have f6 := HB.out.f 6
  have f7 := HB.out.f 7
  have f8 := HB.out.f 8
  have hw1 : IntKind.i64.wrap ((q : Int) + 1) = (q : Int) + 1 := by rw [IntKind.wrap_i64]; omega
  have hw2 : IntKind.i64.wrap ((q : Int) + 2) = (q : Int) + 2 := by rw [IntKind.wrap_i64]; omega
  have hw3 : IntKind.i64.wrap ((q : Int) + 3) = (q : Int) + 3 := by rw [IntKind.wrap_i64]; omega
  have h1I : (q : Int) + 1 < (s.size : Int) := by omega
  have hixx : ∀ w, (Instr.index 9 (.string s) (.int .i64 ((q : Int) + 1))).run Tryz.prog w = .ok (.int .u8 ((byt s (q + 1) : Nat) : Int)) w := fun w => by
    have := idx_str s (q + 1) (by omega) w
    rwa [show (((q + 1 : Nat) : Int)) = (q : Int) + 1 by omega] at this
  have CI : Hid _ := fun (v : World) => in13_any escT (byt s (q + 1)) (by decide) v
  rw [isin_esc, h2] at CI
  unfold escT at CI
  clear h2
  have h3I : ¬ (q : Int) + 3 < (s.size : Int) := by omega
  go_enter Tryz.func99, Tryz.ntmps99
  go_wp2_with (first | rw [← E1.out])
  refine Calls.mono (CI.out w1) ?_; rintro e w2 ⟨rfl, b2⟩
  have H2 : Hid (Gb w w2 w.heap.size) := HB.out.grow b2
  clear c0 c1 c2 c3 c4 c5 c6 c7 c8 f0 f1 f2 f3 f4 f5 f6 f7 f8
  clear b2 HB
  obtain ⟨v0, v1, v2, v3, v4, v5, v6, v7, v8, c0, c1, c2, c3, c4, c5, c6, c7, c8⟩ := H2.out.c
  have f0 := H2.out.f 0
  have f1 := H2.out.f 1
  have f2 := H2.out.f 2
  have f3 := H2.out.f 3
  have f4 := H2.out.f 4
  have f5 := H2.out.f 5
  have f6 := H2.out.f 6
  have f7 := H2.out.f 7
  have f8 := H2.out.f 8
  go_wp2_with fail
  refine bodyPost_ret (results_got rfl _ _ w.heap.size rfl (H2.out.set _ _ _ _ _ _ _ _ _).1) rfl ?_
  exact ⟨rfl, (H2.out.set _ _ _ _ _ _ _ _ _).2⟩

set_option maxRecDepth 100000 in
set_option maxHeartbeats 2000000 in
theorem escape13_other (s : ByteArray) (q : Nat) (hs : s.size ≤ 1000000) (hq2 : q ≤ 2000000) (h3 : q + 3 < s.size) (h2 : escs.contains (byt s (q + 1)) = false) (h4 : byt s (q + 1) ≠ 120) (w : World) :
    Calls Tryz.prog 99 #[.string s, .int .i64 (q : Int)] w fun e w' => e = .returned (rdb (.error (q, 131))) ∧ Below w.heap.size w w' := by
  obtain ⟨w1, e1⟩ : ∃ w1, w1 = w.alloc got0 := ⟨_, rfl⟩
  have hb := gb_new w
  rw [← e1] at hb
  have E1 : Hid (w1 = w.alloc (.cells #[.int .u8 0, .int .u64 0, .int .u64 0, .int .u64 0, .int .u64 0, .slice none 0 0, .int .i64 0, .int .i64 0, .int .i64 0] 80)) := e1
  have HB : Hid (Gb w w1 w.heap.size) := hb
  clear hb e1
  obtain ⟨v0, v1, v2, v3, v4, v5, v6, v7, v8, c0, c1, c2, c3, c4, c5, c6, c7, c8⟩ := HB.out.c
  have f0 := HB.out.f 0
  have f1 := HB.out.f 1
  have f2 := HB.out.f 2
  have f3 := HB.out.f 3
  have f4 := HB.out.f 4
  have f5 := HB.out.f 5
  have f6 := HB.out.f 6
  have f7 := HB.out.f 7
  have f8 := HB.out.f 8
  have hw1 : IntKind.i64.wrap ((q : Int) + 1) = (q : Int) + 1 := by rw [IntKind.wrap_i64]; omega
  have hw2 : IntKind.i64.wrap ((q : Int) + 2) = (q : Int) + 2 := by rw [IntKind.wrap_i64]; omega
  have hw3 : IntKind.i64.wrap ((q : Int) + 3) = (q : Int) + 3 := by rw [IntKind.wrap_i64]; omega
  have h1I : (q : Int) + 1 < (s.size : Int) := by omega
  have hixx : ∀ w, (Instr.index 9 (.string s) (.int .i64 ((q : Int) + 1))).run Tryz.prog w = .ok (.int .u8 ((byt s (q + 1) : Nat) : Int)) w := fun w => by
    have := idx_str s (q + 1) (by omega) w
    rwa [show (((q + 1 : Nat) : Int)) = (q : Int) + 1 by omega] at this
  have CI : Hid _ := fun (v : World) => in13_any escT (byt s (q + 1)) (by decide) v
  rw [isin_esc, h2] at CI
  unfold escT at CI
  clear h2
  have h3I : (q : Int) + 3 < (s.size : Int) := by omega
  have h4I : ¬ ((byt s (q + 1) : Nat) : Int) = 120 := by omega
  go_enter Tryz.func99, Tryz.ntmps99
  go_wp2_with (first | rw [← E1.out])
  refine Calls.mono (CI.out w1) ?_; rintro e w2 ⟨rfl, b2⟩
  have H2 : Hid (Gb w w2 w.heap.size) := HB.out.grow b2
  clear c0 c1 c2 c3 c4 c5 c6 c7 c8 f0 f1 f2 f3 f4 f5 f6 f7 f8
  clear b2 HB
  obtain ⟨v0, v1, v2, v3, v4, v5, v6, v7, v8, c0, c1, c2, c3, c4, c5, c6, c7, c8⟩ := H2.out.c
  have f0 := H2.out.f 0
  have f1 := H2.out.f 1
  have f2 := H2.out.f 2
  have f3 := H2.out.f 3
  have f4 := H2.out.f 4
  have f5 := H2.out.f 5
  have f6 := H2.out.f 6
  have f7 := H2.out.f 7
  have f8 := H2.out.f 8
  go_wp2_with fail
  refine bodyPost_ret (results_got rfl _ _ w.heap.size rfl (H2.out.set _ _ _ _ _ _ _ _ _).1) rfl ?_
  exact ⟨rfl, (H2.out.set _ _ _ _ _ _ _ _ _).2⟩

set_option maxRecDepth 100000 in
set_option maxHeartbeats 2000000 in
theorem escape13_one (s : ByteArray) (q : Nat) (hs : s.size ≤ 1000000) (hq2 : q ≤ 2000000) (h3 : q + 3 < s.size) (h2 : escs.contains (byt s (q + 1)) = false) (h4 : byt s (q + 1) = 120) (h5 : ¬ 0 ≤ hxi (byt s (q + 2))) (w : World) :
    Calls Tryz.prog 99 #[.string s, .int .i64 (q : Int)] w fun e w' => e = .returned (rdb (.error (q, 131))) ∧ Below w.heap.size w w' := by
  obtain ⟨w1, e1⟩ : ∃ w1, w1 = w.alloc got0 := ⟨_, rfl⟩
  have hb := gb_new w
  rw [← e1] at hb
  have E1 : Hid (w1 = w.alloc (.cells #[.int .u8 0, .int .u64 0, .int .u64 0, .int .u64 0, .int .u64 0, .slice none 0 0, .int .i64 0, .int .i64 0, .int .i64 0] 80)) := e1
  have HB : Hid (Gb w w1 w.heap.size) := hb
  clear hb e1
  obtain ⟨v0, v1, v2, v3, v4, v5, v6, v7, v8, c0, c1, c2, c3, c4, c5, c6, c7, c8⟩ := HB.out.c
  have f0 := HB.out.f 0
  have f1 := HB.out.f 1
  have f2 := HB.out.f 2
  have f3 := HB.out.f 3
  have f4 := HB.out.f 4
  have f5 := HB.out.f 5
  have f6 := HB.out.f 6
  have f7 := HB.out.f 7
  have f8 := HB.out.f 8
  have hw1 : IntKind.i64.wrap ((q : Int) + 1) = (q : Int) + 1 := by rw [IntKind.wrap_i64]; omega
  have hw2 : IntKind.i64.wrap ((q : Int) + 2) = (q : Int) + 2 := by rw [IntKind.wrap_i64]; omega
  have hw3 : IntKind.i64.wrap ((q : Int) + 3) = (q : Int) + 3 := by rw [IntKind.wrap_i64]; omega
  have h1I : (q : Int) + 1 < (s.size : Int) := by omega
  have hixx : ∀ w, (Instr.index 9 (.string s) (.int .i64 ((q : Int) + 1))).run Tryz.prog w = .ok (.int .u8 ((byt s (q + 1) : Nat) : Int)) w := fun w => by
    have := idx_str s (q + 1) (by omega) w
    rwa [show (((q + 1 : Nat) : Int)) = (q : Int) + 1 by omega] at this
  have CI : Hid _ := fun (v : World) => in13_any escT (byt s (q + 1)) (by decide) v
  rw [isin_esc, h2] at CI
  unfold escT at CI
  clear h2
  have h3I : (q : Int) + 3 < (s.size : Int) := by omega
  have hixy : ∀ w, (Instr.index 9 (.string s) (.int .i64 ((q : Int) + 2))).run Tryz.prog w = .ok (.int .u8 ((byt s (q + 2) : Nat) : Int)) w := fun w => by
    have := idx_str s (q + 2) (by omega) w
    rwa [show (((q + 2 : Nat) : Int)) = (q : Int) + 2 by omega] at this
  have hixz : ∀ w, (Instr.index 9 (.string s) (.int .i64 ((q : Int) + 3))).run Tryz.prog w = .ok (.int .u8 ((byt s (q + 3) : Nat) : Int)) w := fun w => by
    have := idx_str s (q + 3) (by omega) w
    rwa [show (((q + 3 : Nat) : Int)) = (q : Int) + 3 by omega] at this
  have CH : Hid _ := fun (v : World) => hex13_any (byt s (q + 2)) (byt_lt s (q + 2)) v
  have CK : Hid _ := fun (v : World) => hex13_any (byt s (q + 3)) (byt_lt s (q + 3)) v
  have h4I : ((byt s (q + 1) : Nat) : Int) = 120 := by omega
  generalize hxi (byt s (q + 2)) = y at *
  rw [h4] at hixx CI
  go_enter Tryz.func99, Tryz.ntmps99
  go_wp2_with (first | rw [← E1.out])
  refine Calls.mono (CI.out w1) ?_; rintro e w2 ⟨rfl, b2⟩
  have H2 : Hid (Gb w w2 w.heap.size) := HB.out.grow b2
  clear c0 c1 c2 c3 c4 c5 c6 c7 c8 f0 f1 f2 f3 f4 f5 f6 f7 f8
  clear b2 HB
  obtain ⟨v0, v1, v2, v3, v4, v5, v6, v7, v8, c0, c1, c2, c3, c4, c5, c6, c7, c8⟩ := H2.out.c
  have f0 := H2.out.f 0
  have f1 := H2.out.f 1
  have f2 := H2.out.f 2
  have f3 := H2.out.f 3
  have f4 := H2.out.f 4
  have f5 := H2.out.f 5
  have f6 := H2.out.f 6
  have f7 := H2.out.f 7
  have f8 := H2.out.f 8
  go_wp2_with fail
  refine Calls.mono (CH.out w2) ?_; rintro e w3 ⟨rfl, b3⟩
  have H3 : Hid (Gb w w3 w.heap.size) := H2.out.grow b3
  clear c0 c1 c2 c3 c4 c5 c6 c7 c8 f0 f1 f2 f3 f4 f5 f6 f7 f8
  clear b3 H2
  obtain ⟨v0, v1, v2, v3, v4, v5, v6, v7, v8, c0, c1, c2, c3, c4, c5, c6, c7, c8⟩ := H3.out.c
  have f0 := H3.out.f 0
  have f1 := H3.out.f 1
  have f2 := H3.out.f 2
  have f3 := H3.out.f 3
  have f4 := H3.out.f 4
  have f5 := H3.out.f 5
  have f6 := H3.out.f 6
  have f7 := H3.out.f 7
  have f8 := H3.out.f 8
  go_wp2_with fail
  refine bodyPost_ret (results_got rfl _ _ w.heap.size rfl (H3.out.set _ _ _ _ _ _ _ _ _).1) rfl ?_
  exact ⟨rfl, (H3.out.set _ _ _ _ _ _ _ _ _).2⟩

set_option maxRecDepth 100000 in
set_option maxHeartbeats 2000000 in
theorem escape13_two (s : ByteArray) (q : Nat) (hs : s.size ≤ 1000000) (hq2 : q ≤ 2000000) (h3 : q + 3 < s.size) (h2 : escs.contains (byt s (q + 1)) = false) (h4 : byt s (q + 1) = 120) (h5 : 0 ≤ hxi (byt s (q + 2))) (h6 : ¬ 0 ≤ hxi (byt s (q + 3))) (w : World) :
    Calls Tryz.prog 99 #[.string s, .int .i64 (q : Int)] w fun e w' => e = .returned (rdb (.error (q, 131))) ∧ Below w.heap.size w w' := by
  obtain ⟨w1, e1⟩ : ∃ w1, w1 = w.alloc got0 := ⟨_, rfl⟩
  have hb := gb_new w
  rw [← e1] at hb
  have E1 : Hid (w1 = w.alloc (.cells #[.int .u8 0, .int .u64 0, .int .u64 0, .int .u64 0, .int .u64 0, .slice none 0 0, .int .i64 0, .int .i64 0, .int .i64 0] 80)) := e1
  have HB : Hid (Gb w w1 w.heap.size) := hb
  clear hb e1
  obtain ⟨v0, v1, v2, v3, v4, v5, v6, v7, v8, c0, c1, c2, c3, c4, c5, c6, c7, c8⟩ := HB.out.c
  have f0 := HB.out.f 0
  have f1 := HB.out.f 1
  have f2 := HB.out.f 2
  have f3 := HB.out.f 3
  have f4 := HB.out.f 4
  have f5 := HB.out.f 5
  have f6 := HB.out.f 6
  have f7 := HB.out.f 7
  have f8 := HB.out.f 8
  have hw1 : IntKind.i64.wrap ((q : Int) + 1) = (q : Int) + 1 := by rw [IntKind.wrap_i64]; omega
  have hw2 : IntKind.i64.wrap ((q : Int) + 2) = (q : Int) + 2 := by rw [IntKind.wrap_i64]; omega
  have hw3 : IntKind.i64.wrap ((q : Int) + 3) = (q : Int) + 3 := by rw [IntKind.wrap_i64]; omega
  have h1I : (q : Int) + 1 < (s.size : Int) := by omega
  have hixx : ∀ w, (Instr.index 9 (.string s) (.int .i64 ((q : Int) + 1))).run Tryz.prog w = .ok (.int .u8 ((byt s (q + 1) : Nat) : Int)) w := fun w => by
    have := idx_str s (q + 1) (by omega) w
    rwa [show (((q + 1 : Nat) : Int)) = (q : Int) + 1 by omega] at this
  have CI : Hid _ := fun (v : World) => in13_any escT (byt s (q + 1)) (by decide) v
  rw [isin_esc, h2] at CI
  unfold escT at CI
  clear h2
  have h3I : (q : Int) + 3 < (s.size : Int) := by omega
  have hixy : ∀ w, (Instr.index 9 (.string s) (.int .i64 ((q : Int) + 2))).run Tryz.prog w = .ok (.int .u8 ((byt s (q + 2) : Nat) : Int)) w := fun w => by
    have := idx_str s (q + 2) (by omega) w
    rwa [show (((q + 2 : Nat) : Int)) = (q : Int) + 2 by omega] at this
  have hixz : ∀ w, (Instr.index 9 (.string s) (.int .i64 ((q : Int) + 3))).run Tryz.prog w = .ok (.int .u8 ((byt s (q + 3) : Nat) : Int)) w := fun w => by
    have := idx_str s (q + 3) (by omega) w
    rwa [show (((q + 3 : Nat) : Int)) = (q : Int) + 3 by omega] at this
  have CH : Hid _ := fun (v : World) => hex13_any (byt s (q + 2)) (byt_lt s (q + 2)) v
  have CK : Hid _ := fun (v : World) => hex13_any (byt s (q + 3)) (byt_lt s (q + 3)) v
  have h4I : ((byt s (q + 1) : Nat) : Int) = 120 := by omega
  generalize hxi (byt s (q + 2)) = y at *
  generalize hxi (byt s (q + 3)) = z at *
  rw [h4] at hixx CI
  go_enter Tryz.func99, Tryz.ntmps99
  go_wp2_with (first | rw [← E1.out])
  refine Calls.mono (CI.out w1) ?_; rintro e w2 ⟨rfl, b2⟩
  have H2 : Hid (Gb w w2 w.heap.size) := HB.out.grow b2
  clear c0 c1 c2 c3 c4 c5 c6 c7 c8 f0 f1 f2 f3 f4 f5 f6 f7 f8
  clear b2 HB
  obtain ⟨v0, v1, v2, v3, v4, v5, v6, v7, v8, c0, c1, c2, c3, c4, c5, c6, c7, c8⟩ := H2.out.c
  have f0 := H2.out.f 0
  have f1 := H2.out.f 1
  have f2 := H2.out.f 2
  have f3 := H2.out.f 3
  have f4 := H2.out.f 4
  have f5 := H2.out.f 5
  have f6 := H2.out.f 6
  have f7 := H2.out.f 7
  have f8 := H2.out.f 8
  go_wp2_with fail
  refine Calls.mono (CH.out w2) ?_; rintro e w3 ⟨rfl, b3⟩
  have H3 : Hid (Gb w w3 w.heap.size) := H2.out.grow b3
  clear c0 c1 c2 c3 c4 c5 c6 c7 c8 f0 f1 f2 f3 f4 f5 f6 f7 f8
  clear b3 H2
  obtain ⟨v0, v1, v2, v3, v4, v5, v6, v7, v8, c0, c1, c2, c3, c4, c5, c6, c7, c8⟩ := H3.out.c
  have f0 := H3.out.f 0
  have f1 := H3.out.f 1
  have f2 := H3.out.f 2
  have f3 := H3.out.f 3
  have f4 := H3.out.f 4
  have f5 := H3.out.f 5
  have f6 := H3.out.f 6
  have f7 := H3.out.f 7
  have f8 := H3.out.f 8
  go_wp2_with fail
  refine Calls.mono (CK.out w3) ?_; rintro e w4 ⟨rfl, b4⟩
  have H4 : Hid (Gb w w4 w.heap.size) := H3.out.grow b4
  clear c0 c1 c2 c3 c4 c5 c6 c7 c8 f0 f1 f2 f3 f4 f5 f6 f7 f8
  clear b4 H3
  obtain ⟨v0, v1, v2, v3, v4, v5, v6, v7, v8, c0, c1, c2, c3, c4, c5, c6, c7, c8⟩ := H4.out.c
  have f0 := H4.out.f 0
  have f1 := H4.out.f 1
  have f2 := H4.out.f 2
  have f3 := H4.out.f 3
  have f4 := H4.out.f 4
  have f5 := H4.out.f 5
  have f6 := H4.out.f 6
  have f7 := H4.out.f 7
  have f8 := H4.out.f 8
  go_wp2_with fail
  refine bodyPost_ret (results_got rfl _ _ w.heap.size rfl (H4.out.set _ _ _ _ _ _ _ _ _).1) rfl ?_
  exact ⟨rfl, (H4.out.set _ _ _ _ _ _ _ _ _).2⟩

set_option maxRecDepth 100000 in
set_option maxHeartbeats 2000000 in
theorem escape13_hex (s : ByteArray) (q : Nat) (hs : s.size ≤ 1000000) (hq2 : q ≤ 2000000) (h3 : q + 3 < s.size) (h2 : escs.contains (byt s (q + 1)) = false) (h4 : byt s (q + 1) = 120) (h5 : 0 ≤ hxi (byt s (q + 2))) (h6 : 0 ≤ hxi (byt s (q + 3))) (w : World) :
    Calls Tryz.prog 99 #[.string s, .int .i64 (q : Int)] w fun e w' => e = .returned (rdb (.ok (16 * (hexv (byt s (q + 2))).getD 0 + (hexv (byt s (q + 3))).getD 0, q + 4))) ∧ Below w.heap.size w w' := by
  obtain ⟨w1, e1⟩ : ∃ w1, w1 = w.alloc got0 := ⟨_, rfl⟩
  have hb := gb_new w
  rw [← e1] at hb
  have E1 : Hid (w1 = w.alloc (.cells #[.int .u8 0, .int .u64 0, .int .u64 0, .int .u64 0, .int .u64 0, .slice none 0 0, .int .i64 0, .int .i64 0, .int .i64 0] 80)) := e1
  have HB : Hid (Gb w w1 w.heap.size) := hb
  clear hb e1
  obtain ⟨v0, v1, v2, v3, v4, v5, v6, v7, v8, c0, c1, c2, c3, c4, c5, c6, c7, c8⟩ := HB.out.c
  have f0 := HB.out.f 0
  have f1 := HB.out.f 1
  have f2 := HB.out.f 2
  have f3 := HB.out.f 3
  have f4 := HB.out.f 4
  have f5 := HB.out.f 5
  have f6 := HB.out.f 6
  have f7 := HB.out.f 7
  have f8 := HB.out.f 8
  have hw1 : IntKind.i64.wrap ((q : Int) + 1) = (q : Int) + 1 := by rw [IntKind.wrap_i64]; omega
  have hw2 : IntKind.i64.wrap ((q : Int) + 2) = (q : Int) + 2 := by rw [IntKind.wrap_i64]; omega
  have hw3 : IntKind.i64.wrap ((q : Int) + 3) = (q : Int) + 3 := by rw [IntKind.wrap_i64]; omega
  have hw4 : IntKind.i64.wrap ((q : Int) + 4) = (q : Int) + 4 := by rw [IntKind.wrap_i64]; omega
  have h1I : (q : Int) + 1 < (s.size : Int) := by omega
  have hixx : ∀ w, (Instr.index 9 (.string s) (.int .i64 ((q : Int) + 1))).run Tryz.prog w = .ok (.int .u8 ((byt s (q + 1) : Nat) : Int)) w := fun w => by
    have := idx_str s (q + 1) (by omega) w
    rwa [show (((q + 1 : Nat) : Int)) = (q : Int) + 1 by omega] at this
  have CI : Hid _ := fun (v : World) => in13_any escT (byt s (q + 1)) (by decide) v
  rw [isin_esc, h2] at CI
  unfold escT at CI
  clear h2
  have h3I : (q : Int) + 3 < (s.size : Int) := by omega
  have hixy : ∀ w, (Instr.index 9 (.string s) (.int .i64 ((q : Int) + 2))).run Tryz.prog w = .ok (.int .u8 ((byt s (q + 2) : Nat) : Int)) w := fun w => by
    have := idx_str s (q + 2) (by omega) w
    rwa [show (((q + 2 : Nat) : Int)) = (q : Int) + 2 by omega] at this
  have hixz : ∀ w, (Instr.index 9 (.string s) (.int .i64 ((q : Int) + 3))).run Tryz.prog w = .ok (.int .u8 ((byt s (q + 3) : Nat) : Int)) w := fun w => by
    have := idx_str s (q + 3) (by omega) w
    rwa [show (((q + 3 : Nat) : Int)) = (q : Int) + 3 by omega] at this
  have CH : Hid _ := fun (v : World) => hex13_any (byt s (q + 2)) (byt_lt s (q + 2)) v
  have CK : Hid _ := fun (v : World) => hex13_any (byt s (q + 3)) (byt_lt s (q + 3)) v
  have h4I : ((byt s (q + 1) : Nat) : Int) = 120 := by omega
  obtain ⟨e5, l5⟩ := hxi_get h5
  obtain ⟨e6, l6⟩ := hxi_get h6
  rw [e5] at CH
  rw [e6] at CK
  generalize (hexv (byt s (q + 2))).getD 0 = y at *
  generalize (hexv (byt s (q + 3))).getD 0 = z at *
  generalize byt s (q + 2) = x2 at *
  generalize byt s (q + 3) = x3 at *
  have h5I : (0 : Int) ≤ (y : Int) := by omega
  have h6I : (0 : Int) ≤ (z : Int) := by omega
  have hm : IntKind.i64.wrap (16 * (y : Int)) = 16 * (y : Int) := by rw [IntKind.wrap_i64]; omega
  have ha : IntKind.i64.wrap (16 * (y : Int) + (z : Int)) = 16 * (y : Int) + (z : Int) := by rw [IntKind.wrap_i64]; omega
  have hu : IntKind.u8.wrap (16 * (y : Int) + (z : Int)) = 16 * (y : Int) + (z : Int) := by rw [IntKind.wrap_u8]; omega
  clear h5 h6 e5 e6
  rw [h4] at hixx CI
  go_enter Tryz.func99, Tryz.ntmps99
  go_wp2_with (first | rw [← E1.out])
  refine Calls.mono (CI.out w1) ?_; rintro e w2 ⟨rfl, b2⟩
  have H2 : Hid (Gb w w2 w.heap.size) := HB.out.grow b2
  clear c0 c1 c2 c3 c4 c5 c6 c7 c8 f0 f1 f2 f3 f4 f5 f6 f7 f8
  clear b2 HB
  obtain ⟨v0, v1, v2, v3, v4, v5, v6, v7, v8, c0, c1, c2, c3, c4, c5, c6, c7, c8⟩ := H2.out.c
  have f0 := H2.out.f 0
  have f1 := H2.out.f 1
  have f2 := H2.out.f 2
  have f3 := H2.out.f 3
  have f4 := H2.out.f 4
  have f5 := H2.out.f 5
  have f6 := H2.out.f 6
  have f7 := H2.out.f 7
  have f8 := H2.out.f 8
  go_wp2_with fail
  refine Calls.mono (CH.out w2) ?_; rintro e w3 ⟨rfl, b3⟩
  have H3 : Hid (Gb w w3 w.heap.size) := H2.out.grow b3
  clear c0 c1 c2 c3 c4 c5 c6 c7 c8 f0 f1 f2 f3 f4 f5 f6 f7 f8
  clear b3 H2
  obtain ⟨v0, v1, v2, v3, v4, v5, v6, v7, v8, c0, c1, c2, c3, c4, c5, c6, c7, c8⟩ := H3.out.c
  have f0 := H3.out.f 0
  have f1 := H3.out.f 1
  have f2 := H3.out.f 2
  have f3 := H3.out.f 3
  have f4 := H3.out.f 4
  have f5 := H3.out.f 5
  have f6 := H3.out.f 6
  have f7 := H3.out.f 7
  have f8 := H3.out.f 8
  go_wp2_with fail
  refine Calls.mono (CK.out w3) ?_; rintro e w4 ⟨rfl, b4⟩
  have H4 : Hid (Gb w w4 w.heap.size) := H3.out.grow b4
  clear c0 c1 c2 c3 c4 c5 c6 c7 c8 f0 f1 f2 f3 f4 f5 f6 f7 f8
  clear b4 H3
  obtain ⟨v0, v1, v2, v3, v4, v5, v6, v7, v8, c0, c1, c2, c3, c4, c5, c6, c7, c8⟩ := H4.out.c
  have f0 := H4.out.f 0
  have f1 := H4.out.f 1
  have f2 := H4.out.f 2
  have f3 := H4.out.f 3
  have f4 := H4.out.f 4
  have f5 := H4.out.f 5
  have f6 := H4.out.f 6
  have f7 := H4.out.f 7
  have f8 := H4.out.f 8
  go_wp2_with fail
  have KX : Hid _ := H4.out.keep ⟨c0, c1, c2, c3, c4, c5, c6, c7, c8⟩
  have KS : Hid _ := H4.out.some
  obtain ⟨s0, s1, s2, s3, s4, s5, s6, s7, s8⟩ := (KS.out w4 (Below.refl _ _)).1
  go_region_held3 (fun w' => w'.frozen? ⟨w.heap.size, 0, none⟩ = false ∧ w'.frozen? ⟨w.heap.size, 1, none⟩ = false ∧ w'.frozen? ⟨w.heap.size, 2, none⟩ = false ∧ w'.frozen? ⟨w.heap.size, 3, none⟩ = false ∧ w'.frozen? ⟨w.heap.size, 4, none⟩ = false ∧ w'.frozen? ⟨w.heap.size, 5, none⟩ = false ∧ w'.frozen? ⟨w.heap.size, 6, none⟩ = false ∧ w'.frozen? ⟨w.heap.size, 7, none⟩ = false ∧ w'.frozen? ⟨w.heap.size, 8, none⟩ = false) (go_keep)
    (first
      | (go_at_call 120; (with_reducible refine Calls.mono (CH.out _) ?_); rintro e vk ⟨rfl, bb⟩; have B5 : Hid (Below w4.heap.size w4 vk) := undrew bb; clear bb s0 s1 s2 s3 s4 s5 s6 s7 s8; clear c0 c1 c2 c3 c4 c5 c6 c7 c8 f0 f1 f2 f3 f4 f5 f6 f7 f8; obtain ⟨⟨c0, c1, c2, c3, c4, c5, c6, c7, c8⟩, ff⟩ := KX.out vk B5.out; obtain ⟨s0, s1, s2, s3, s4, s5, s6, s7, s8⟩ := (KS.out vk B5.out).1; have f0 := ff 0; have f1 := ff 1; have f2 := ff 2; have f3 := ff 3; have f4 := ff 4; have f5 := ff 5; have f6 := ff 6; have f7 := ff 7; have f8 := ff 8; clear ff)
      | (go_at_call 120; (with_reducible refine Calls.mono (CK.out _) ?_); rintro e vk ⟨rfl, bb⟩; have B6 : Hid (Below w4.heap.size w4 vk) := B5.out.trans (bb.mono B5.out.size); clear bb B5 s0 s1 s2 s3 s4 s5 s6 s7 s8; clear c0 c1 c2 c3 c4 c5 c6 c7 c8 f0 f1 f2 f3 f4 f5 f6 f7 f8; obtain ⟨⟨c0, c1, c2, c3, c4, c5, c6, c7, c8⟩, ff⟩ := KX.out vk B6.out; obtain ⟨s0, s1, s2, s3, s4, s5, s6, s7, s8⟩ := (KS.out vk B6.out).1; have f0 := ff 0; have f1 := ff 1; have f2 := ff 2; have f3 := ff 3; have f4 := ff 4; have f5 := ff 5; have f6 := ff 6; have f7 := ff 7; have f8 := ff 8; clear ff))
  all_goals
    go_wp2_with fail
    have H6 : Hid (Gb w vk w.heap.size) := H4.out.grow B6.out
    refine bodyPost_ret (results_got rfl _ _ w.heap.size rfl (H6.out.set _ _ _ _ _ _ _ _ _).1) rfl ?_
    exact ⟨rfl, (H6.out.set _ _ _ _ _ _ _ _ _).2⟩

theorem escape13_any (s : ByteArray) (q : Nat) (hs : s.size ≤ 1000000) (hq2 : q ≤ 2000000) (w : World) :
    Calls Tryz.prog 99 #[.string s, .int .i64 (q : Int)] w fun e w' => e = .returned (rdb (esp s q)) ∧ Below w.heap.size w w' := by
  unfold esp
  by_cases h1 : q + 1 < s.size
  · cases h2 : escs.contains (byt s (q + 1)) with
    | true => rw [if_pos ⟨h1, rfl⟩]; exact escape13_sign s q hs hq2 h1 h2 w
    | false =>
      rw [if_neg (fun h => by cases h.2)]
      by_cases h3 : q + 3 < s.size
      · by_cases h4 : byt s (q + 1) = 120
        · by_cases h5 : 0 ≤ hxi (byt s (q + 2))
          · by_cases h6 : 0 ≤ hxi (byt s (q + 3))
            · rw [if_pos ⟨h3, h4, (hxi_some _).1 h5, (hxi_some _).1 h6⟩]; exact escape13_hex s q hs hq2 h3 h2 h4 h5 h6 w
            · rw [if_neg (fun h => h6 ((hxi_some _).2 h.2.2.2))]; exact escape13_two s q hs hq2 h3 h2 h4 h5 h6 w
          · rw [if_neg (fun h => h5 ((hxi_some _).2 h.2.2.1))]; exact escape13_one s q hs hq2 h3 h2 h4 h5 w
        · rw [if_neg (fun h => h4 h.2.1)]; exact escape13_other s q hs hq2 h3 h2 h4 w
      · rw [if_neg (fun h => h3 h.1)]; exact escape13_near s q hs hq2 h1 h2 (by omega) w
  · rw [if_neg (fun h => h1 h.1), if_neg (fun h => h1 (by omega))]; exact escape13_short s q hs hq2 (by omega) w

set_option maxRecDepth 100000 in
set_option maxHeartbeats 2000000 in
theorem item13_end (s : ByteArray) (q : Nat) (hs : s.size ≤ 1000000) (hq2 : q ≤ 2000000) (h1 : s.size ≤ q) (w : World) :
    Calls Tryz.prog 117 #[.string s, .int .i64 (q : Int)] w fun e w' => e = .returned (rdb (.error (s.size, 133))) ∧ Below w.heap.size w w' := by
  obtain ⟨w1, e1⟩ : ∃ w1, w1 = w.alloc got0 := ⟨_, rfl⟩
  have hb := gb_new w
  rw [← e1] at hb
  have E1 : Hid (w1 = w.alloc (.cells #[.int .u8 0, .int .u64 0, .int .u64 0, .int .u64 0, .int .u64 0, .slice none 0 0, .int .i64 0, .int .i64 0, .int .i64 0] 80)) := e1
  have HB : Hid (Gb w w1 w.heap.size) := hb
  clear hb e1
  obtain ⟨v0, v1, v2, v3, v4, v5, v6, v7, v8, c0, c1, c2, c3, c4, c5, c6, c7, c8⟩ := HB.out.c
  have f0 := HB.out.f 0
  have f1 := HB.out.f 1
  have f2 := HB.out.f 2
  have f3 := HB.out.f 3
  have f4 := HB.out.f 4
  have f5 := HB.out.f 5
  have f6 := HB.out.f 6
  have f7 := HB.out.f 7
  have f8 := HB.out.f 8
  have h1I : (s.size : Int) ≤ (q : Int) := by omega
  go_enter Tryz.func117, Tryz.ntmps117
  go_wp2_with (first | rw [← E1.out])
  refine bodyPost_ret (results_got rfl _ _ w.heap.size rfl (HB.out.set _ _ _ _ _ _ _ _ _).1) rfl ?_
  exact ⟨rfl, (HB.out.set _ _ _ _ _ _ _ _ _).2⟩

set_option maxRecDepth 100000 in
set_option maxHeartbeats 2000000 in
theorem item13_esc_ok (s : ByteArray) (q : Nat) (hs : s.size ≤ 1000000) (hq2 : q ≤ 2000000) (b n : Nat) (h1 : q < s.size) (h2 : byt s q = 92) (h3 : esp s q = .ok (b, n)) (w : World) :
    Calls Tryz.prog 117 #[.string s, .int .i64 (q : Int)] w fun e w' => e = .returned (rdb (.ok (b, n))) ∧ Below w.heap.size w w' := by
  obtain ⟨w1, e1⟩ : ∃ w1, w1 = w.alloc got0 := ⟨_, rfl⟩
  have hb := gb_new w
  rw [← e1] at hb
  have E1 : Hid (w1 = w.alloc (.cells #[.int .u8 0, .int .u64 0, .int .u64 0, .int .u64 0, .int .u64 0, .slice none 0 0, .int .i64 0, .int .i64 0, .int .i64 0] 80)) := e1
  have HB : Hid (Gb w w1 w.heap.size) := hb
  clear hb e1
  obtain ⟨v0, v1, v2, v3, v4, v5, v6, v7, v8, c0, c1, c2, c3, c4, c5, c6, c7, c8⟩ := HB.out.c
  have f0 := HB.out.f 0
  have f1 := HB.out.f 1
  have f2 := HB.out.f 2
  have f3 := HB.out.f 3
  have f4 := HB.out.f 4
  have f5 := HB.out.f 5
  have f6 := HB.out.f 6
  have f7 := HB.out.f 7
  have f8 := HB.out.f 8
  have h1I : ¬ (s.size : Int) ≤ (q : Int) := by omega
  have hix : ∀ w, (Instr.index 9 (.string s) (.int .i64 (q : Int))).run Tryz.prog w = .ok (.int .u8 ((byt s q : Nat) : Int)) w := fun w => idx_str s q h1 w
  have CE : Hid _ := fun (v : World) => escape13_any s q hs hq2 v
  rw [h3] at CE
  simp only [rdb, gotv] at CE
  rw [h2] at hix
  go_enter Tryz.func117, Tryz.ntmps117
  go_wp2_with (first | rw [← E1.out])
  refine Calls.mono (CE.out w1) ?_; rintro e w2 ⟨rfl, b2⟩
  have H2 : Hid (Gb w w2 w.heap.size) := HB.out.grow b2
  clear c0 c1 c2 c3 c4 c5 c6 c7 c8 f0 f1 f2 f3 f4 f5 f6 f7 f8
  clear b2 HB
  obtain ⟨v0, v1, v2, v3, v4, v5, v6, v7, v8, c0, c1, c2, c3, c4, c5, c6, c7, c8⟩ := H2.out.c
  have f0 := H2.out.f 0
  have f1 := H2.out.f 1
  have f2 := H2.out.f 2
  have f3 := H2.out.f 3
  have f4 := H2.out.f 4
  have f5 := H2.out.f 5
  have f6 := H2.out.f 6
  have f7 := H2.out.f 7
  have f8 := H2.out.f 8
  go_wp2_with fail
  refine bodyPost_ret (results_got rfl _ _ w.heap.size rfl (H2.out.set _ _ _ _ _ _ _ _ _).1) rfl ?_
  exact ⟨rfl, (H2.out.set _ _ _ _ _ _ _ _ _).2⟩

set_option maxRecDepth 100000 in
set_option maxHeartbeats 2000000 in
theorem item13_esc_err (s : ByteArray) (q : Nat) (hs : s.size ≤ 1000000) (hq2 : q ≤ 2000000) (b n : Nat) (h1 : q < s.size) (h2 : byt s q = 92) (h3 : esp s q = .error (b, n)) (w : World) :
    Calls Tryz.prog 117 #[.string s, .int .i64 (q : Int)] w fun e w' => e = .returned (rdb (.error (b, n))) ∧ Below w.heap.size w w' := by
  obtain ⟨w1, e1⟩ : ∃ w1, w1 = w.alloc got0 := ⟨_, rfl⟩
  have hb := gb_new w
  rw [← e1] at hb
  have E1 : Hid (w1 = w.alloc (.cells #[.int .u8 0, .int .u64 0, .int .u64 0, .int .u64 0, .int .u64 0, .slice none 0 0, .int .i64 0, .int .i64 0, .int .i64 0] 80)) := e1
  have HB : Hid (Gb w w1 w.heap.size) := hb
  clear hb e1
  obtain ⟨v0, v1, v2, v3, v4, v5, v6, v7, v8, c0, c1, c2, c3, c4, c5, c6, c7, c8⟩ := HB.out.c
  have f0 := HB.out.f 0
  have f1 := HB.out.f 1
  have f2 := HB.out.f 2
  have f3 := HB.out.f 3
  have f4 := HB.out.f 4
  have f5 := HB.out.f 5
  have f6 := HB.out.f 6
  have f7 := HB.out.f 7
  have f8 := HB.out.f 8
  have h1I : ¬ (s.size : Int) ≤ (q : Int) := by omega
  have hix : ∀ w, (Instr.index 9 (.string s) (.int .i64 (q : Int))).run Tryz.prog w = .ok (.int .u8 ((byt s q : Nat) : Int)) w := fun w => idx_str s q h1 w
  have CE : Hid _ := fun (v : World) => escape13_any s q hs hq2 v
  rw [h3] at CE
  simp only [rdb, gotv] at CE
  rw [h2] at hix
  go_enter Tryz.func117, Tryz.ntmps117
  go_wp2_with (first | rw [← E1.out])
  refine Calls.mono (CE.out w1) ?_; rintro e w2 ⟨rfl, b2⟩
  have H2 : Hid (Gb w w2 w.heap.size) := HB.out.grow b2
  clear c0 c1 c2 c3 c4 c5 c6 c7 c8 f0 f1 f2 f3 f4 f5 f6 f7 f8
  clear b2 HB
  obtain ⟨v0, v1, v2, v3, v4, v5, v6, v7, v8, c0, c1, c2, c3, c4, c5, c6, c7, c8⟩ := H2.out.c
  have f0 := H2.out.f 0
  have f1 := H2.out.f 1
  have f2 := H2.out.f 2
  have f3 := H2.out.f 3
  have f4 := H2.out.f 4
  have f5 := H2.out.f 5
  have f6 := H2.out.f 6
  have f7 := H2.out.f 7
  have f8 := H2.out.f 8
  go_wp2_with fail
  refine bodyPost_ret (results_got rfl _ _ w.heap.size rfl (H2.out.set _ _ _ _ _ _ _ _ _).1) rfl ?_
  exact ⟨rfl, (H2.out.set _ _ _ _ _ _ _ _ _).2⟩

set_option maxRecDepth 100000 in
set_option maxHeartbeats 2000000 in
theorem item13_bad (s : ByteArray) (q : Nat) (hs : s.size ≤ 1000000) (hq2 : q ≤ 2000000) (h1 : q < s.size) (h2 : byt s q ≠ 92) (h3 : sgn (byt s q) = false) (w : World) :
    Calls Tryz.prog 117 #[.string s, .int .i64 (q : Int)] w fun e w' => e = .returned (rdb (.error (q, 132))) ∧ Below w.heap.size w w' := by
  obtain ⟨w1, e1⟩ : ∃ w1, w1 = w.alloc got0 := ⟨_, rfl⟩
  have hb := gb_new w
  rw [← e1] at hb
  have E1 : Hid (w1 = w.alloc (.cells #[.int .u8 0, .int .u64 0, .int .u64 0, .int .u64 0, .int .u64 0, .slice none 0 0, .int .i64 0, .int .i64 0, .int .i64 0] 80)) := e1
  have HB : Hid (Gb w w1 w.heap.size) := hb
  clear hb e1
  obtain ⟨v0, v1, v2, v3, v4, v5, v6, v7, v8, c0, c1, c2, c3, c4, c5, c6, c7, c8⟩ := HB.out.c
  have f0 := HB.out.f 0
  have f1 := HB.out.f 1
  have f2 := HB.out.f 2
  have f3 := HB.out.f 3
  have f4 := HB.out.f 4
  have f5 := HB.out.f 5
  have f6 := HB.out.f 6
  have f7 := HB.out.f 7
  have f8 := HB.out.f 8
  have h1I : ¬ (s.size : Int) ≤ (q : Int) := by omega
  have h2I : ¬ ((byt s q : Nat) : Int) = 92 := by omega
  have hw1 : IntKind.i64.wrap ((q : Int) + 1) = (q : Int) + 1 := by rw [IntKind.wrap_i64]; omega
  have hix : ∀ w, (Instr.index 9 (.string s) (.int .i64 (q : Int))).run Tryz.prog w = .ok (.int .u8 ((byt s q : Nat) : Int)) w := fun w => idx_str s q h1 w
  have CS : Hid _ := fun (v : World) => sign13_any (byt s q) v
  rw [h3] at CS
  clear h3
  generalize byt s q = x at *
  go_enter Tryz.func117, Tryz.ntmps117
  go_wp2_with (first | rw [← E1.out])
  refine Calls.mono (CS.out w1) ?_; rintro e w2 ⟨rfl, b2⟩
  have H2 : Hid (Gb w w2 w.heap.size) := HB.out.grow b2
  clear c0 c1 c2 c3 c4 c5 c6 c7 c8 f0 f1 f2 f3 f4 f5 f6 f7 f8
  clear b2 HB
  obtain ⟨v0, v1, v2, v3, v4, v5, v6, v7, v8, c0, c1, c2, c3, c4, c5, c6, c7, c8⟩ := H2.out.c
  have f0 := H2.out.f 0
  have f1 := H2.out.f 1
  have f2 := H2.out.f 2
  have f3 := H2.out.f 3
  have f4 := H2.out.f 4
  have f5 := H2.out.f 5
  have f6 := H2.out.f 6
  have f7 := H2.out.f 7
  have f8 := H2.out.f 8
  go_wp2_with fail
  refine bodyPost_ret (results_got rfl _ _ w.heap.size rfl (H2.out.set _ _ _ _ _ _ _ _ _).1) rfl ?_
  exact ⟨rfl, (H2.out.set _ _ _ _ _ _ _ _ _).2⟩

set_option maxRecDepth 100000 in
set_option maxHeartbeats 2000000 in
theorem item13_apart (s : ByteArray) (q : Nat) (hs : s.size ≤ 1000000) (hq2 : q ≤ 2000000) (h1 : q < s.size) (h2 : byt s q ≠ 92) (h3 : sgn (byt s q) = true) (h4 : [34, 91, 93, 45, 94].contains (byt s q) = true) (w : World) :
    Calls Tryz.prog 117 #[.string s, .int .i64 (q : Int)] w fun e w' => e = .returned (rdb (.error (q, 132))) ∧ Below w.heap.size w w' := by
  obtain ⟨w1, e1⟩ : ∃ w1, w1 = w.alloc got0 := ⟨_, rfl⟩
  have hb := gb_new w
  rw [← e1] at hb
  have E1 : Hid (w1 = w.alloc (.cells #[.int .u8 0, .int .u64 0, .int .u64 0, .int .u64 0, .int .u64 0, .slice none 0 0, .int .i64 0, .int .i64 0, .int .i64 0] 80)) := e1
  have HB : Hid (Gb w w1 w.heap.size) := hb
  clear hb e1
  obtain ⟨v0, v1, v2, v3, v4, v5, v6, v7, v8, c0, c1, c2, c3, c4, c5, c6, c7, c8⟩ := HB.out.c
  have f0 := HB.out.f 0
  have f1 := HB.out.f 1
  have f2 := HB.out.f 2
  have f3 := HB.out.f 3
  have f4 := HB.out.f 4
  have f5 := HB.out.f 5
  have f6 := HB.out.f 6
  have f7 := HB.out.f 7
  have f8 := HB.out.f 8
  have h1I : ¬ (s.size : Int) ≤ (q : Int) := by omega
  have h2I : ¬ ((byt s q : Nat) : Int) = 92 := by omega
  have hw1 : IntKind.i64.wrap ((q : Int) + 1) = (q : Int) + 1 := by rw [IntKind.wrap_i64]; omega
  have hix : ∀ w, (Instr.index 9 (.string s) (.int .i64 (q : Int))).run Tryz.prog w = .ok (.int .u8 ((byt s q : Nat) : Int)) w := fun w => idx_str s q h1 w
  have CS : Hid _ := fun (v : World) => sign13_any (byt s q) v
  rw [h3] at CS
  have CI : Hid _ := fun (v : World) => in13_any itmT (byt s q) (by decide) v
  rw [isin_itm, h4] at CI
  unfold itmT at CI
  clear h3 h4
  generalize byt s q = x at *
  go_enter Tryz.func117, Tryz.ntmps117
  go_wp2_with (first | rw [← E1.out])
  refine Calls.mono (CS.out w1) ?_; rintro e w2 ⟨rfl, b2⟩
  have H2 : Hid (Gb w w2 w.heap.size) := HB.out.grow b2
  clear c0 c1 c2 c3 c4 c5 c6 c7 c8 f0 f1 f2 f3 f4 f5 f6 f7 f8
  clear b2 HB
  obtain ⟨v0, v1, v2, v3, v4, v5, v6, v7, v8, c0, c1, c2, c3, c4, c5, c6, c7, c8⟩ := H2.out.c
  have f0 := H2.out.f 0
  have f1 := H2.out.f 1
  have f2 := H2.out.f 2
  have f3 := H2.out.f 3
  have f4 := H2.out.f 4
  have f5 := H2.out.f 5
  have f6 := H2.out.f 6
  have f7 := H2.out.f 7
  have f8 := H2.out.f 8
  go_wp2_with fail
  refine Calls.mono (CI.out w2) ?_; rintro e w3 ⟨rfl, b3⟩
  have H3 : Hid (Gb w w3 w.heap.size) := H2.out.grow b3
  clear c0 c1 c2 c3 c4 c5 c6 c7 c8 f0 f1 f2 f3 f4 f5 f6 f7 f8
  clear b3 H2
  obtain ⟨v0, v1, v2, v3, v4, v5, v6, v7, v8, c0, c1, c2, c3, c4, c5, c6, c7, c8⟩ := H3.out.c
  have f0 := H3.out.f 0
  have f1 := H3.out.f 1
  have f2 := H3.out.f 2
  have f3 := H3.out.f 3
  have f4 := H3.out.f 4
  have f5 := H3.out.f 5
  have f6 := H3.out.f 6
  have f7 := H3.out.f 7
  have f8 := H3.out.f 8
  go_wp2_with fail
  refine bodyPost_ret (results_got rfl _ _ w.heap.size rfl (H3.out.set _ _ _ _ _ _ _ _ _).1) rfl ?_
  exact ⟨rfl, (H3.out.set _ _ _ _ _ _ _ _ _).2⟩

set_option maxRecDepth 100000 in
set_option maxHeartbeats 2000000 in
theorem item13_sign (s : ByteArray) (q : Nat) (hs : s.size ≤ 1000000) (hq2 : q ≤ 2000000) (h1 : q < s.size) (h2 : byt s q ≠ 92) (h3 : sgn (byt s q) = true) (h4 : [34, 91, 93, 45, 94].contains (byt s q) = false) (w : World) :
    Calls Tryz.prog 117 #[.string s, .int .i64 (q : Int)] w fun e w' => e = .returned (rdb (.ok (byt s q, q + 1))) ∧ Below w.heap.size w w' := by
  obtain ⟨w1, e1⟩ : ∃ w1, w1 = w.alloc got0 := ⟨_, rfl⟩
  have hb := gb_new w
  rw [← e1] at hb
  have E1 : Hid (w1 = w.alloc (.cells #[.int .u8 0, .int .u64 0, .int .u64 0, .int .u64 0, .int .u64 0, .slice none 0 0, .int .i64 0, .int .i64 0, .int .i64 0] 80)) := e1
  have HB : Hid (Gb w w1 w.heap.size) := hb
  clear hb e1
  obtain ⟨v0, v1, v2, v3, v4, v5, v6, v7, v8, c0, c1, c2, c3, c4, c5, c6, c7, c8⟩ := HB.out.c
  have f0 := HB.out.f 0
  have f1 := HB.out.f 1
  have f2 := HB.out.f 2
  have f3 := HB.out.f 3
  have f4 := HB.out.f 4
  have f5 := HB.out.f 5
  have f6 := HB.out.f 6
  have f7 := HB.out.f 7
  have f8 := HB.out.f 8
  have h1I : ¬ (s.size : Int) ≤ (q : Int) := by omega
  have h2I : ¬ ((byt s q : Nat) : Int) = 92 := by omega
  have hw1 : IntKind.i64.wrap ((q : Int) + 1) = (q : Int) + 1 := by rw [IntKind.wrap_i64]; omega
  have hix : ∀ w, (Instr.index 9 (.string s) (.int .i64 (q : Int))).run Tryz.prog w = .ok (.int .u8 ((byt s q : Nat) : Int)) w := fun w => idx_str s q h1 w
  have CS : Hid _ := fun (v : World) => sign13_any (byt s q) v
  rw [h3] at CS
  have CI : Hid _ := fun (v : World) => in13_any itmT (byt s q) (by decide) v
  rw [isin_itm, h4] at CI
  unfold itmT at CI
  clear h3 h4
  generalize byt s q = x at *
  go_enter Tryz.func117, Tryz.ntmps117
  go_wp2_with (first | rw [← E1.out])
  refine Calls.mono (CS.out w1) ?_; rintro e w2 ⟨rfl, b2⟩
  have H2 : Hid (Gb w w2 w.heap.size) := HB.out.grow b2
  clear c0 c1 c2 c3 c4 c5 c6 c7 c8 f0 f1 f2 f3 f4 f5 f6 f7 f8
  clear b2 HB
  obtain ⟨v0, v1, v2, v3, v4, v5, v6, v7, v8, c0, c1, c2, c3, c4, c5, c6, c7, c8⟩ := H2.out.c
  have f0 := H2.out.f 0
  have f1 := H2.out.f 1
  have f2 := H2.out.f 2
  have f3 := H2.out.f 3
  have f4 := H2.out.f 4
  have f5 := H2.out.f 5
  have f6 := H2.out.f 6
  have f7 := H2.out.f 7
  have f8 := H2.out.f 8
  go_wp2_with fail
  refine Calls.mono (CI.out w2) ?_; rintro e w3 ⟨rfl, b3⟩
  have H3 : Hid (Gb w w3 w.heap.size) := H2.out.grow b3
  clear c0 c1 c2 c3 c4 c5 c6 c7 c8 f0 f1 f2 f3 f4 f5 f6 f7 f8
  clear b3 H2
  obtain ⟨v0, v1, v2, v3, v4, v5, v6, v7, v8, c0, c1, c2, c3, c4, c5, c6, c7, c8⟩ := H3.out.c
  have f0 := H3.out.f 0
  have f1 := H3.out.f 1
  have f2 := H3.out.f 2
  have f3 := H3.out.f 3
  have f4 := H3.out.f 4
  have f5 := H3.out.f 5
  have f6 := H3.out.f 6
  have f7 := H3.out.f 7
  have f8 := H3.out.f 8
  go_wp2_with fail
  refine bodyPost_ret (results_got rfl _ _ w.heap.size rfl (H3.out.set _ _ _ _ _ _ _ _ _).1) rfl ?_
  exact ⟨rfl, (H3.out.set _ _ _ _ _ _ _ _ _).2⟩

theorem item13_any (s : ByteArray) (q : Nat) (hs : s.size ≤ 1000000) (hq2 : q ≤ 2000000) (w : World) :
    Calls Tryz.prog 117 #[.string s, .int .i64 (q : Int)] w fun e w' => e = .returned (rdb (itm s q)) ∧ Below w.heap.size w w' := by
  unfold itm
  by_cases h1 : s.size ≤ q
  · rw [if_pos h1]; exact item13_end s q hs hq2 h1 w
  · rw [if_neg h1]
    by_cases h2 : byt s q = 92
    · rw [if_pos h2]
      cases h3 : esp s q with
      | ok r => obtain ⟨b, n⟩ := r; exact item13_esc_ok s q hs hq2 b n (by omega) h2 h3 w
      | error r => obtain ⟨b, n⟩ := r; exact item13_esc_err s q hs hq2 b n (by omega) h2 h3 w
    · rw [if_neg h2]
      cases h3 : sgn (byt s q) with
      | false => rw [if_pos (.inl rfl)]; exact item13_bad s q hs hq2 (by omega) h2 h3 w
      | true =>
        cases h4 : [34, 91, 93, 45, 94].contains (byt s q) with
        | true => rw [if_pos (.inr rfl)]; exact item13_apart s q hs hq2 (by omega) h2 h3 h4 w
        | false => rw [if_neg (by rintro (h | h) <;> cases h)]; exact item13_sign s q hs hq2 (by omega) h2 h3 h4 w

end Cls
end Go.Proofs.YtbnnobeahliffaaGreatDoor
