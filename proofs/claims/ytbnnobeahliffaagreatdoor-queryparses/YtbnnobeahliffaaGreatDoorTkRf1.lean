/- Contract of beagleref13.class. (Written by mktk5.py.) -/
import Derived.Test.YtbnnobeahliffaaGreatDoorTkRd3
import Derived.Test.YtbnnobeahliffaaGreatDoorTkEsc
import Derived.Test.YtbnnobeahliffaaGreatDoorTkWro
import Derived.Deep.RegionWith
import Derived.Deep.DeepCutAuto
import Derived.Deep.CutRange
set_option linter.unusedVariables false
namespace Go.Proofs.YtbnnobeahliffaaGreatDoor
open Go.RowKit
namespace Cls

theorem g9_made (w : World) (v0 v1 v2 v3 v4 v5 v6 v7 v8 : Value) (T : TypeId) : G9 (w.alloc (.cells #[v0, v1, v2, v3, v4, v5, v6, v7, v8] T)) w.heap.size v0 v1 v2 v3 v4 v5 v6 v7 v8 := by
  have hb : (w.alloc (.cells #[v0, v1, v2, v3, v4, v5, v6, v7, v8] T)).heap[w.heap.size]? = some (.cells #[v0, v1, v2, v3, v4, v5, v6, v7, v8] T) := World.alloc_heap_new w _
  constructor
  all_goals
    unfold World.cell?
    rw [hb]
    rfl

theorem g9_open (w : World) (v0 v1 v2 v3 v4 v5 v6 v7 v8 : Value) (T : TypeId) (t : Nat) : (w.alloc (.cells #[v0, v1, v2, v3, v4, v5, v6, v7, v8] T)).frozen? ⟨w.heap.size, t, none⟩ = false := by
  have hb : (w.alloc (.cells #[v0, v1, v2, v3, v4, v5, v6, v7, v8] T)).heap[w.heap.size]? = some (.cells #[v0, v1, v2, v3, v4, v5, v6, v7, v8] T) := World.alloc_heap_new w _
  unfold World.frozen?
  rw [hb]
  simp

theorem gb_more {w v : World} (h : Below w.heap.size w v) (v0 v1 v2 v3 v4 v5 v6 v7 v8 : Value) (T : TypeId) : Gb w (v.alloc (.cells #[v0, v1, v2, v3, v4, v5, v6, v7, v8] T)) v.heap.size :=
  ⟨h.alloc h.size _, h.size, by rw [al_size]; omega, ⟨_, _, _, _, _, _, _, _, _, g9_made v _ _ _ _ _ _ _ _ _ _⟩, g9_open v _ _ _ _ _ _ _ _ _ _⟩

theorem G9.stay {v v' : World} {g : Nat} {v0 v1 v2 v3 v4 v5 v6 v7 v8 : Value} (h : G9 v g v0 v1 v2 v3 v4 v5 v6 v7 v8) (b : Below v.heap.size v v') : G9 v' g v0 v1 v2 v3 v4 v5 v6 v7 v8 := by
  have hi : g < v.heap.size := World.block_lt_of_cell? v _ h.c0
  have c := fun (t : Nat) => b.cell (p := ⟨g, t, none⟩) hi
  exact ⟨(c 0).trans h.c0, (c 1).trans h.c1, (c 2).trans h.c2, (c 3).trans h.c3, (c 4).trans h.c4, (c 5).trans h.c5, (c 6).trans h.c6, (c 7).trans h.c7, (c 8).trans h.c8⟩

theorem set9_wrote (v : World) (g : Nat) (x0 x1 x2 x3 x4 x5 x6 x7 x8 : Value) : Wrote (fun b _ => b = g) v (set9 v g x0 x1 x2 x3 x4 x5 x6 x7 x8) :=
  ((((((((Wrote.refl (fun b _ => b = g) v).setCell rfl _).setCell rfl _).setCell rfl _).setCell rfl _).setCell rfl _).setCell rfl _).setCell rfl _).setCell rfl _ |>.setCell rfl _

theorem G9.wrote {v v' : World} {S : Nat → Nat → Prop} {b : Nat} {v0 v1 v2 v3 v4 v5 v6 v7 v8 : Value} (h : G9 v b v0 v1 v2 v3 v4 v5 v6 v7 v8) (hw : Wrote S v v') (hS : ∀ t, ¬ S b t) : G9 v' b v0 v1 v2 v3 v4 v5 v6 v7 v8 :=
  ⟨(hw.cell b 0 (hS 0)).trans h.c0, (hw.cell b 1 (hS 1)).trans h.c1, (hw.cell b 2 (hS 2)).trans h.c2, (hw.cell b 3 (hS 3)).trans h.c3, (hw.cell b 4 (hS 4)).trans h.c4, (hw.cell b 5 (hS 5)).trans h.c5, (hw.cell b 6 (hS 6)).trans h.c6, (hw.cell b 7 (hS 7)).trans h.c7, (hw.cell b 8 (hS 8)).trans h.c8⟩

theorem Gb.wrote {w v v' : World} {S : Nat → Nat → Prop} {b : Nat} (h : Gb w v b) (hw : Wrote S v v') (hS : ∀ t, ¬ S b t) (hb : Below w.heap.size w v') : Gb w v' b := by
  obtain ⟨v0, v1, v2, v3, v4, v5, v6, v7, v8, hc⟩ := h.c
  exact ⟨hb, h.low, by rw [hw.size]; exact h.hi, ⟨_, _, _, _, _, _, _, _, _, hc.wrote hw hS⟩, fun t => by rw [hw.frozen]; exact h.f t⟩

theorem Gb.put {w v : World} {g : Nat} (h : Gb w v g) (x0 x1 x2 x3 x4 x5 x6 x7 x8 : Value) : G9 (set9 v g x0 x1 x2 x3 x4 x5 x6 x7 x8) g x0 x1 x2 x3 x4 x5 x6 x7 x8 ∧ Gb w (set9 v g x0 x1 x2 x3 x4 x5 x6 x7 x8) g := by
  have h1 := h.set x0 x1 x2 x3 x4 x5 x6 x7 x8
  have hw := set9_wrote v g x0 x1 x2 x3 x4 x5 x6 x7 x8
  exact ⟨h1.1, ⟨h1.2, h.low, by rw [hw.size]; exact h.hi, ⟨_, _, _, _, _, _, _, _, _, h1.1⟩, fun t => by rw [hw.frozen]; exact h.f t⟩⟩

/-- What is read of a class, as a 'Got'. -/
def rdc : Rd (Nat → Bool) → Value
  | .ok (f, n) => gotv 0 ((wd f 0 : Nat) : Int) ((wd f 1 : Nat) : Int) ((wd f 2 : Nat) : Int) ((wd f 3 : Nat) : Int) (.slice none 0 0) 0 (n : Int) 0
  | .error (p, c) => gotv 0 0 0 0 0 (.slice none 0 0) 0 (p : Int) (c : Int)

/-- Where the loop of a class stands. -/
structure D13 (w wr : World) (g : Nat) (s : ByteArray) (op q fuel : Nat) (out : Nat → Bool) (items : Nat) : Prop where
  r : Gb w wr w.heap.size
  b : Kb w wr g
  c : Kc wr g out
  lo : op < q
  hi : q ≤ s.size
  fu : s.size + 1 ≤ fuel + q
  it : items + fuel = s.size + 1
  eq : cli s (s.size + 1) (cst s op) (fun _ => false) 0 = cli s fuel q out items

/-- A byte in the first cell of a box; the class's box and the result's. -/
structure Dw (w wr : World) (g ga gb : Nat) (out : Nat → Bool) (x y : Nat) : Prop where
  r : Gb w wr w.heap.size
  b : Kb w wr g
  c : Kc wr g out
  a0 : wr.cell? ⟨ga, 0, none⟩ = some (.int .u8 (x : Int))
  b0 : wr.cell? ⟨gb, 0, none⟩ = some (.int .u8 (y : Int))

theorem Dw.grow {w wr v : World} {g ga gb : Nat} {out : Nat → Bool} {a b : Nat} (h : Dw w wr g ga gb out a b) (hb : Below wr.heap.size wr v) : Dw w v g ga gb out a b :=
  ⟨h.r.grow hb, h.b.grow hb, K4.keep h.c hb, (hb.cell (p := ⟨ga, 0, none⟩) (World.block_lt_of_cell? wr _ h.a0)).trans h.a0, (hb.cell (p := ⟨gb, 0, none⟩) (World.block_lt_of_cell? wr _ h.b0)).trans h.b0⟩

theorem clr_no {s : ByteArray} {op n items : Nat} {out : Nat → Bool} (h : cli s (s.size + 1) (cst s op) (fun _ => false) 0 = .ok ((out, items), n)) (hz : items = 0 ∨ cb (if cnot s op then fun x => !out x else out) 0 256 = 0) : clr s op = .error (op, 132) := by
  unfold clr
  unfold cst at h
  rw [h]
  simp only
  by_cases hc : op + 1 < s.size ∧ byt s (op + 1) = 94
  · rw [show cnot s op = true from decide_eq_true hc] at hz
    simp only [if_true] at hz
    simp only [hc, and_self, if_true]
    rw [if_pos hz]
  · rw [show cnot s op = false from decide_eq_false hc] at hz
    simp only [Bool.false_eq_true, if_false] at hz
    simp only [if_neg hc]
    rw [if_pos hz]

theorem clr_yes {s : ByteArray} {op n items : Nat} {out : Nat → Bool} (h : cli s (s.size + 1) (cst s op) (fun _ => false) 0 = .ok ((out, items), n)) (hz : ¬ (items = 0 ∨ cb (if cnot s op then fun x => !out x else out) 0 256 = 0)) : clr s op = .ok ((if cnot s op then fun x => !out x else out), n + 1) := by
  unfold clr
  unfold cst at h
  rw [h]
  simp only
  by_cases hc : op + 1 < s.size ∧ byt s (op + 1) = 94
  · rw [show cnot s op = true from decide_eq_true hc] at hz ⊢
    simp only [if_true] at hz
    simp only [hc, and_self, if_true]
    rw [if_neg hz]
  · rw [show cnot s op = false from decide_eq_false hc] at hz ⊢
    simp only [Bool.false_eq_true, if_false] at hz
    simp only [if_neg hc]
    rw [if_neg hz]
    simp

set_option maxRecDepth 100000 in
set_option maxHeartbeats 8000000 in
theorem class13_any (s : ByteArray) (op : Nat) (hs : s.size ≤ 1000000) (hop : op < s.size) (w : World) :
    Calls Tryz.prog 98 #[.string s, .int .i64 (op : Int)] w fun e w' => e = .returned (rdc (clr s op)) ∧ Below w.heap.size w w' := by
  obtain ⟨w1, e1⟩ : ∃ w1, w1 = w.alloc (.cells #[.int .u8 0, .int .u64 0, .int .u64 0, .int .u64 0, .int .u64 0, .slice none 0 0, .int .i64 0, .int .i64 0, .int .i64 0] 80) := ⟨_, rfl⟩
  obtain ⟨w2, e2⟩ : ∃ w2, w2 = w1.alloc (.cells #[.int .u64 0, .int .u64 0, .int .u64 0, .int .u64 0] 67) := ⟨_, rfl⟩
  have s1 : w1.heap.size = w.heap.size + 1 := by rw [e1, al_size]
  have b1 : Below w.heap.size w w1 := by rw [e1]; exact al_below _ _
  have b2 : Below w1.heap.size w1 w2 := by rw [e2]; exact al_below _ _
  have k1 : Gb w w1 w.heap.size := by rw [e1]; exact gb_more (Below.refl _ _) _ _ _ _ _ _ _ _ _ _
  have k2 : Kb w w2 w1.heap.size := by rw [e2]; exact kb_more b1 _ _ _ _ _
  have q2 : K4 w2 w1.heap.size (.int .u64 0) (.int .u64 0) (.int .u64 0) (.int .u64 0) := by rw [e2]; exact k4_new _ _ _ _ _ _
  have q3 : Kc w2 w1.heap.size (fun _ => false) := by unfold Kc; simp only [wd_none]; exact q2
  obtain ⟨st, hst⟩ : ∃ st, st = cst s op := ⟨_, rfl⟩
  have hcst : op < cst s op ∧ cst s op ≤ s.size := by
    unfold cst
    split <;> omega
  have HC : Hid (D13 w w2 w1.heap.size s op st (s.size + 1) (fun _ => false) 0) :=
    ⟨k1.grow b2, k2, q3, by omega, by omega, by omega, by omega, by rw [hst]⟩
  have E1 : Hid _ := e1
  have E2 : Hid _ := e2
  have H1 : Hid (w.heap.size + 1 = w1.heap.size) := s1.symm
  have hne : w.heap.size ≠ w1.heap.size := by omega
  obtain ⟨o1, ho1⟩ : ∃ o1 : Nat, o1 = op + 1 := ⟨_, rfl⟩
  have hw1 : IntKind.i64.wrap ((op : Int) + 1) = (o1 : Int) := by rw [IntKind.wrap_i64]; omega
  have hw2 : IntKind.i64.wrap ((o1 : Int) + 1) = (o1 : Int) + 1 := by rw [IntKind.wrap_i64]; omega
  have HO1 : Hid (o1 = op + 1) := ho1
  have HST : Hid (st = cst s op ∧ op < cst s op ∧ cst s op ≤ s.size) := ⟨hst, hcst⟩
  clear e1 e2 s1 b1 b2 k1 k2 q2 q3 ho1 hst hcst
  generalize w1.heap.size = g at *
  go_enter Tryz.func98, Tryz.ntmps98
  go_upto_region 2 with fail
  go_cut [6] (fun v6 wc => v6 = .bool (cnot s op) ∧ wc = w.alloc (.cells #[.int .u8 0, .int .u64 0, .int .u64 0, .int .u64 0, .int .u64 0, .slice none 0 0, .int .i64 0, .int .i64 0, .int .i64 0] 80))
  case first =>
    have ho1 := HO1.out
    by_cases h1 : op + 1 < s.size
    · have h1I : (o1 : Int) < (s.size : Int) := by omega
      have hi1 : ∀ w, (Instr.index 9 (.string s) (.int .i64 (o1 : Int))).run Tryz.prog w = .ok (.int .u8 ((byt s (op + 1) : Nat) : Int)) w := fun w => by
        rw [idx_str s o1 (by omega) w, ho1]
      by_cases h2 : byt s (op + 1) = 94
      · have ek : cnot s op = true := decide_eq_true ⟨h1, h2⟩
        rw [h2] at hi1
        clear ho1
        go_wp2_with fail
        go_meet
        exact ⟨by rw [ek], rfl⟩
      · have ek : cnot s op = false := decide_eq_false (fun h => h2 h.2)
        have h2I : ¬ ((byt s (op + 1) : Nat) : Int) = 94 := by omega
        have h2J : ((((byt s (op + 1) : Nat) : Int)) == 94) = false := beq_eq_false_iff_ne.2 h2I
        generalize byt s (op + 1) = y1 at hi1 h2 h2I h2J
        clear ho1
        go_wp2_with fail
        go_meet
        exact ⟨by rw [ek], rfl⟩
    · have h1I : ¬ (o1 : Int) < (s.size : Int) := by omega
      have ek : cnot s op = false := decide_eq_false (fun h => h1 h.1)
      clear ho1
      go_wp2_with fail
      go_meet
      exact ⟨by rw [ek], rfl⟩
  case rest =>
    obtain ⟨rfl, rfl⟩ := hcut
    have ho1 := HO1.out
    obtain ⟨hst, hcst⟩ := HST.out
    have hso : (st : Int) = if cnot s op = true then (o1 : Int) + 1 else (o1 : Int) := by
      rw [hst]
      unfold cst
      by_cases hc : op + 1 < s.size ∧ byt s (op + 1) = 94
      · rw [if_pos hc, if_pos (show cnot s op = true from decide_eq_true hc)]; omega
      · rw [if_neg hc, if_neg (by rw [show cnot s op = false from decide_eq_false hc]; decide)]; omega
    obtain ⟨o, ek⟩ : ∃ o, cnot s op = o := ⟨_, rfl⟩
    rw [ek] at hso
    rw [ek]
    clear hst hcst ho1
    go_upto_if 23 with fail
    go_cut [5] (fun v5 wc => v5 = .int .i64 (st : Int) ∧ wc = w.alloc (.cells #[.int .u8 0, .int .u64 0, .int .u64 0, .int .u64 0, .int .u64 0, .slice none 0 0, .int .i64 0, .int .i64 0, .int .i64 0] 80))
    case first =>
      cases o with
      | true =>
        rw [if_pos rfl] at hso
        go_wp2_with fail
        go_meet
        exact ⟨by rw [hso], rfl⟩
      | false =>
        rw [if_neg (by decide)] at hso
        go_wp2_with fail
        go_meet
        exact ⟨by rw [hso], rfl⟩
    case rest =>
      obtain ⟨rfl, rfl⟩ := hcut
      clear hso hw1 hw2
      go_wp2_with fail
      rw [← E1.out, ← E2.out, H1.out]
      clear E1 E2 H1
      go_loopw [5, 7] (fun vq vi wr => ∃ (q items fuel : Nat) (out : Nat → Bool), vq = .int .i64 (q : Int) ∧ vi = .int .i64 (items : Int) ∧ D13 w wr g s op q fuel out items) (fun vq _ _ => s.size - (intOf vq).toNat)
      case atStart => exact ⟨st, 0, s.size + 1, fun _ => false, rfl, rfl, HC.out⟩
      case round =>
        obtain ⟨q, items, fuel, out, rfl, rfl, hD⟩ := hrel
        have HD : Hid (D13 w wr g s op q fuel out items) := hD
        have HR : Hid (Gb w wr w.heap.size) := hD.r
        have hlo := hD.lo
        have hhi := hD.hi
        have hit := hD.it
        obtain ⟨f', rfl⟩ : ∃ f', fuel = f' + 1 := ⟨fuel - 1, by have := hD.fu; omega⟩
        have hfu := hD.fu
        have heq := hD.eq
        have fr0 := hD.r.f 0
        have fr1 := hD.r.f 1
        have fr2 := hD.r.f 2
        have fr3 := hD.r.f 3
        have fr4 := hD.r.f 4
        have fr5 := hD.r.f 5
        have fr6 := hD.r.f 6
        have fr7 := hD.r.f 7
        have fr8 := hD.r.f 8
        obtain ⟨x0, x1, x2, x3, x4, x5, x6, x7, x8, r0, r1, r2, r3, r4, r5, r6, r7, r8⟩ := hD.r.c
        obtain ⟨d0, d1, d2, d3⟩ := hD.c
        clear hD HC
        go_upto_region 7 with fail
        go_cut [35] (fun v35 wc => v35 = .bool (!decide (q < s.size ∧ byt s q = 93)) ∧ wc = wr)
        case first =>
          by_cases hq : q < s.size
          · have hi : ∀ w, (Instr.index 9 (.string s) (.int .i64 (q : Int))).run Tryz.prog w = .ok (.int .u8 ((byt s q : Nat) : Int)) w := fun w => idx_str s q hq w
            have hqI : ¬ (s.size : Int) ≤ (q : Int) := by omega
            have hv : (!decide (q < s.size ∧ byt s q = 93)) = ((((byt s q : Nat) : Int)) != 93) := by
              by_cases h : byt s q = 93
              · rw [h]; simp [hq]
              · have : ((byt s q : Nat) : Int) ≠ 93 := by omega
                simp [h, this]
            have HV : Hid _ := hv
            clear hv heq
            generalize byt s q = y at *
            go_wp2_with fail
            go_meet
            exact ⟨by rw [HV.out], rfl⟩
          · have hqI : (s.size : Int) ≤ (q : Int) := by omega
            have hv : (!decide (q < s.size ∧ byt s q = 93)) = true := by simp [hq]
            have HV : Hid _ := hv
            clear hv heq
            go_wp2_with fail
            go_meet
            exact ⟨by rw [HV.out], rfl⟩
        case rest =>
          obtain ⟨rfl, rfl⟩ := hcut
          by_cases h93 : q < s.size ∧ byt s q = 93
          · rw [cli_rit s f' q out items, if_pos h93] at heq
            rw [show (!decide (q < s.size ∧ byt s q = 93)) = false by simp [h93]]
            have hwq : IntKind.i64.wrap ((q : Int) + 1) = (q : Int) + 1 := by rw [IntKind.wrap_i64]; omega
            cases o with
            | true =>
              have CN : Hid _ := fun (v : World) => refNot_any out v
              go_wp2_with fail
              refine Calls.mono (CN.out _) ?_; rintro e w3 ⟨rfl, b3⟩
              have R3 : Hid (Gb w w3 w.heap.size) := HR.out.grow b3
              have k3 : Kb w w3 g := HD.out.b.grow b3
              clear r0 r1 r2 r3 r4 r5 r6 r7 r8 fr0 fr1 fr2 fr3 fr4 fr5 fr6 fr7 fr8 x0 x1 x2 x3 x4 x5 x6 x7 x8 d0 d1 d2 d3 b3 HR HD
              have z0 := k3.f 0
              have z1 := k3.f 1
              have z2 := k3.f 2
              have z3 := k3.f 3
              obtain ⟨t0, t1, t2, t3, d0, d1, d2, d3⟩ := k3.c
              obtain ⟨w4, e4⟩ : ∃ w4, w4 = set4v w3 g (.int .u64 ((wd (fun x => !out x) 0 : Nat) : Int)) (.int .u64 ((wd (fun x => !out x) 1 : Nat) : Int)) (.int .u64 ((wd (fun x => !out x) 2 : Nat) : Int)) (.int .u64 ((wd (fun x => !out x) 3 : Nat) : Int)) := ⟨_, rfl⟩
              have p4 := k3.put (.int .u64 ((wd (fun x => !out x) 0 : Nat) : Int)) (.int .u64 ((wd (fun x => !out x) 1 : Nat) : Int)) (.int .u64 ((wd (fun x => !out x) 2 : Nat) : Int)) (.int .u64 ((wd (fun x => !out x) 3 : Nat) : Int))
              have hw4 := set4v_wrote w3 g (.int .u64 ((wd (fun x => !out x) 0 : Nat) : Int)) (.int .u64 ((wd (fun x => !out x) 1 : Nat) : Int)) (.int .u64 ((wd (fun x => !out x) 2 : Nat) : Int)) (.int .u64 ((wd (fun x => !out x) 3 : Nat) : Int))
              rw [← e4] at p4 hw4
              have R4 : Hid (Gb w w4 w.heap.size) := R3.out.wrote hw4 (fun t e => hne e) p4.2.bel
              have C4 : Hid (Kc w4 g (fun x => !out x)) := p4.1
              unfold set4v at e4
              have E4 : Hid _ := e4
              obtain ⟨j0, j1, j2, j3⟩ := p4.1
              clear p4 hw4 e4 k3 R3
              have fr0 := R4.out.f 0
              have fr1 := R4.out.f 1
              have fr2 := R4.out.f 2
              have fr3 := R4.out.f 3
              have fr4 := R4.out.f 4
              have fr5 := R4.out.f 5
              have fr6 := R4.out.f 6
              have fr7 := R4.out.f 7
              have fr8 := R4.out.f 8
              obtain ⟨x0, x1, x2, x3, x4, x5, x6, x7, x8, r0, r1, r2, r3, r4, r5, r6, r7, r8⟩ := R4.out.c
              by_cases h0 : items = 0
              · have HF : Hid (clr s op = .error (op, 132)) := clr_no heq (.inl h0)
                subst h0
                go_wp2_with (first | rw [← E4.out])
                refine bodyPost_ret (results_got rfl _ _ w.heap.size rfl (R4.out.put _ _ _ _ _ _ _ _ _).1) rfl ?_
                exact ⟨by rw [HF.out]; rfl, (R4.out.put _ _ _ _ _ _ _ _ _).2.bel⟩
              · have h0I : ((items : Int) == 0) = false := beq_eq_false_iff_ne.2 (by omega)
                have CZ : Hid _ := fun (v : World) => refSize_any (fun x => !out x) v
                by_cases hz : cb (fun x => !out x) 0 256 = 0
                · have HF : Hid (clr s op = .error (op, 132)) := clr_no heq (.inr (by rw [ek]; exact hz))
                  rw [hz] at CZ
                  clear heq
                  go_wp2_with (first | rw [← E4.out])
                  refine Calls.mono (CZ.out w4) ?_; rintro e w6 ⟨rfl, b6⟩
                  have R6 : Hid (Gb w w6 w.heap.size) := R4.out.grow b6
                  clear r0 r1 r2 r3 r4 r5 r6 r7 r8 fr0 fr1 fr2 fr3 fr4 fr5 fr6 fr7 fr8 x0 x1 x2 x3 x4 x5 x6 x7 x8 b6
                  have fr0 := R6.out.f 0
                  have fr1 := R6.out.f 1
                  have fr2 := R6.out.f 2
                  have fr3 := R6.out.f 3
                  have fr4 := R6.out.f 4
                  have fr5 := R6.out.f 5
                  have fr6 := R6.out.f 6
                  have fr7 := R6.out.f 7
                  have fr8 := R6.out.f 8
                  obtain ⟨x0, x1, x2, x3, x4, x5, x6, x7, x8, r0, r1, r2, r3, r4, r5, r6, r7, r8⟩ := R6.out.c
                  go_wp2_with fail
                  refine bodyPost_ret (results_got rfl _ _ w.heap.size rfl (R6.out.put _ _ _ _ _ _ _ _ _).1) rfl ?_
                  exact ⟨by rw [HF.out]; rfl, (R6.out.put _ _ _ _ _ _ _ _ _).2.bel⟩
                · have HF' := clr_yes heq (by rw [ek]; rintro (e | e); exact h0 e; exact hz e)
                  rw [ek] at HF'
                  have HF : Hid _ := HF'
                  have hzI : (((cb (fun x => !out x) 0 256 : Nat) : Int) == 0) = false := beq_eq_false_iff_ne.2 (by omega)
                  clear HF'
                  generalize cb (fun x => !out x) 0 256 = cc at *
                  clear heq
                  go_wp2_with (first | rw [← E4.out])
                  refine Calls.mono (CZ.out w4) ?_; rintro e w6 ⟨rfl, b6⟩
                  have R6 : Hid (Gb w w6 w.heap.size) := R4.out.grow b6
                  have C6 := K4.keep C4.out b6
                  clear r0 r1 r2 r3 r4 r5 r6 r7 r8 fr0 fr1 fr2 fr3 fr4 fr5 fr6 fr7 fr8 x0 x1 x2 x3 x4 x5 x6 x7 x8 b6 j0 j1 j2 j3
                  obtain ⟨j0, j1, j2, j3⟩ := C6
                  have fr0 := R6.out.f 0
                  have fr1 := R6.out.f 1
                  have fr2 := R6.out.f 2
                  have fr3 := R6.out.f 3
                  have fr4 := R6.out.f 4
                  have fr5 := R6.out.f 5
                  have fr6 := R6.out.f 6
                  have fr7 := R6.out.f 7
                  have fr8 := R6.out.f 8
                  obtain ⟨x0, x1, x2, x3, x4, x5, x6, x7, x8, r0, r1, r2, r3, r4, r5, r6, r7, r8⟩ := R6.out.c
                  go_wp2_with fail
                  refine bodyPost_ret (results_got rfl _ _ w.heap.size rfl (R6.out.put _ _ _ _ _ _ _ _ _).1) rfl ?_
                  exact ⟨by rw [HF.out]; rfl, (R6.out.put _ _ _ _ _ _ _ _ _).2.bel⟩
            | false =>
              have R4 : Hid (Gb w _ w.heap.size) := HR.out
              have C4 : Hid (Kc _ g out) := HD.out.c
              obtain ⟨j0, j1, j2, j3⟩ := C4.out
              clear d0 d1 d2 d3
              by_cases h0 : items = 0
              · have HF : Hid (clr s op = .error (op, 132)) := clr_no heq (.inl h0)
                subst h0
                go_wp2_with fail
                refine bodyPost_ret (results_got rfl _ _ w.heap.size rfl (R4.out.put _ _ _ _ _ _ _ _ _).1) rfl ?_
                exact ⟨by rw [HF.out]; rfl, (R4.out.put _ _ _ _ _ _ _ _ _).2.bel⟩
              · have h0I : ((items : Int) == 0) = false := beq_eq_false_iff_ne.2 (by omega)
                have CZ : Hid _ := fun (v : World) => refSize_any out v
                by_cases hz : cb out 0 256 = 0
                · have HF : Hid (clr s op = .error (op, 132)) := clr_no heq (.inr (by rw [ek]; exact hz))
                  rw [hz] at CZ
                  clear heq
                  go_wp2_with fail
                  refine Calls.mono (CZ.out _) ?_; rintro e w6 ⟨rfl, b6⟩
                  have R6 : Hid (Gb w w6 w.heap.size) := R4.out.grow b6
                  clear r0 r1 r2 r3 r4 r5 r6 r7 r8 fr0 fr1 fr2 fr3 fr4 fr5 fr6 fr7 fr8 x0 x1 x2 x3 x4 x5 x6 x7 x8 b6
                  have fr0 := R6.out.f 0
                  have fr1 := R6.out.f 1
                  have fr2 := R6.out.f 2
                  have fr3 := R6.out.f 3
                  have fr4 := R6.out.f 4
                  have fr5 := R6.out.f 5
                  have fr6 := R6.out.f 6
                  have fr7 := R6.out.f 7
                  have fr8 := R6.out.f 8
                  obtain ⟨x0, x1, x2, x3, x4, x5, x6, x7, x8, r0, r1, r2, r3, r4, r5, r6, r7, r8⟩ := R6.out.c
                  go_wp2_with fail
                  refine bodyPost_ret (results_got rfl _ _ w.heap.size rfl (R6.out.put _ _ _ _ _ _ _ _ _).1) rfl ?_
                  exact ⟨by rw [HF.out]; rfl, (R6.out.put _ _ _ _ _ _ _ _ _).2.bel⟩
                · have HF' := clr_yes heq (by rw [ek]; rintro (e | e); exact h0 e; exact hz e)
                  rw [ek] at HF'
                  have HF : Hid _ := HF'
                  have hzI : (((cb out 0 256 : Nat) : Int) == 0) = false := beq_eq_false_iff_ne.2 (by omega)
                  clear HF'
                  generalize cb out 0 256 = cc at *
                  clear heq
                  go_wp2_with fail
                  refine Calls.mono (CZ.out _) ?_; rintro e w6 ⟨rfl, b6⟩
                  have R6 : Hid (Gb w w6 w.heap.size) := R4.out.grow b6
                  have C6 := K4.keep C4.out b6
                  clear r0 r1 r2 r3 r4 r5 r6 r7 r8 fr0 fr1 fr2 fr3 fr4 fr5 fr6 fr7 fr8 x0 x1 x2 x3 x4 x5 x6 x7 x8 b6 j0 j1 j2 j3
                  obtain ⟨j0, j1, j2, j3⟩ := C6
                  have fr0 := R6.out.f 0
                  have fr1 := R6.out.f 1
                  have fr2 := R6.out.f 2
                  have fr3 := R6.out.f 3
                  have fr4 := R6.out.f 4
                  have fr5 := R6.out.f 5
                  have fr6 := R6.out.f 6
                  have fr7 := R6.out.f 7
                  have fr8 := R6.out.f 8
                  obtain ⟨x0, x1, x2, x3, x4, x5, x6, x7, x8, r0, r1, r2, r3, r4, r5, r6, r7, r8⟩ := R6.out.c
                  go_wp2_with fail
                  refine bodyPost_ret (results_got rfl _ _ w.heap.size rfl (R6.out.put _ _ _ _ _ _ _ _ _).1) rfl ?_
                  exact ⟨by rw [HF.out]; rfl, (R6.out.put _ _ _ _ _ _ _ _ _).2.bel⟩
          · rw [cli_rit s f' q out items, if_neg h93] at heq
            unfold rit at heq
            rw [show (!decide (q < s.size ∧ byt s q = 93)) = true by simp [h93]]
            have CI : Hid _ := fun (v : World) => item13_any s q hs (by omega) v
            clear h93
            cases hr : itm s q with
            | error r =>
              obtain ⟨p, c⟩ := r
              have hc : ¬ (c : Int) = 0 := by have := esp_code0 hr; omega
              rw [hr] at CI heq
              simp only at heq
              have HF : Hid (clr s op = .error (p, c)) := clr_err heq
              simp only [rdb, gotv] at CI
              clear heq hr HD d0 d1 d2 d3
              go_wp2_with fail
              refine Calls.mono (CI.out _) ?_; rintro e w3 ⟨rfl, b3⟩
              have hr3 := HR.out.grow b3
              obtain ⟨w4, e4⟩ : ∃ w4, w4 = w3.alloc (.cells #[.int .u8 0, .int .u64 0, .int .u64 0, .int .u64 0, .int .u64 0, .slice none 0 0, .int .i64 0, .int .i64 (p : Int), .int .i64 (c : Int)] 80) := ⟨_, rfl⟩
              have R4 : Hid (Gb w w4 w.heap.size) := by show Gb _ _ _; rw [e4]; exact hr3.grow (al_below _ _)
              have qa : G9 w4 w3.heap.size (.int .u8 0) (.int .u64 0) (.int .u64 0) (.int .u64 0) (.int .u64 0) (.slice none 0 0) (.int .i64 0) (.int .i64 (p : Int)) (.int .i64 (c : Int)) := by rw [e4]; exact g9_made _ _ _ _ _ _ _ _ _ _ _
              have E4 : Hid _ := e4
              clear x0 x1 x2 x3 x4 x5 x6 x7 x8 r0 r1 r2 r3 r4 r5 r6 r7 r8 fr0 fr1 fr2 fr3 fr4 fr5 fr6 fr7 fr8 b3 hr3 e4
              obtain ⟨k0, k1, k2, k3, k4, k5, k6, k7, k8⟩ := qa
              have fr0 := R4.out.f 0
              have fr1 := R4.out.f 1
              have fr2 := R4.out.f 2
              have fr3 := R4.out.f 3
              have fr4 := R4.out.f 4
              have fr5 := R4.out.f 5
              have fr6 := R4.out.f 6
              have fr7 := R4.out.f 7
              have fr8 := R4.out.f 8
              obtain ⟨x0, x1, x2, x3, x4, x5, x6, x7, x8, r0, r1, r2, r3, r4, r5, r6, r7, r8⟩ := R4.out.c
              go_wp2_with (first | rw [← E4.out])
              refine bodyPost_ret (results_got rfl _ _ w.heap.size rfl (R4.out.put _ _ _ _ _ _ _ _ _).1) rfl ?_
              exact ⟨by rw [HF.out]; rfl, (R4.out.put _ _ _ _ _ _ _ _ _).2.bel⟩
            | ok r =>
              obtain ⟨a, at1⟩ := r
              obtain ⟨n1, n2, n3⟩ := itm_next hr
              rw [hr] at CI heq
              simp only [rdb, gotv] at CI
              simp only at heq
              clear hr
              go_wp2_with fail
              refine Calls.mono (CI.out _) ?_; rintro e w3 ⟨rfl, b3⟩
              obtain ⟨w4, e4⟩ : ∃ w4, w4 = w3.alloc (.cells #[.int .u8 (a : Int), .int .u64 0, .int .u64 0, .int .u64 0, .int .u64 0, .slice none 0 0, .int .i64 0, .int .i64 (at1 : Int), .int .i64 0] 80) := ⟨_, rfl⟩
              obtain ⟨w5, e5⟩ : ∃ w5, w5 = w4.alloc (.cells #[.int .u8 (a : Int), .int .u64 0, .int .u64 0, .int .u64 0, .int .u64 0, .slice none 0 0, .int .i64 0, .int .i64 (at1 : Int), .int .i64 0] 80) := ⟨_, rfl⟩
              have b34 : Below w3.heap.size w3 w4 := by rw [e4]; exact al_below _ _
              have s4 : w4.heap.size = w3.heap.size + 1 := by rw [e4, al_size]
              have hr3 := HR.out.grow b3
              have hr4 := hr3.grow b34
              have b45 : Below w4.heap.size w4 w5 := by rw [e5]; exact al_below _ _
              have qa : G9 w4 w3.heap.size (.int .u8 (a : Int)) (.int .u64 0) (.int .u64 0) (.int .u64 0) (.int .u64 0) (.slice none 0 0) (.int .i64 0) (.int .i64 (at1 : Int)) (.int .i64 0) := by rw [e4]; exact g9_made _ _ _ _ _ _ _ _ _ _ _
              have qb : G9 w5 w4.heap.size (.int .u8 (a : Int)) (.int .u64 0) (.int .u64 0) (.int .u64 0) (.int .u64 0) (.slice none 0 0) (.int .i64 0) (.int .i64 (at1 : Int)) (.int .i64 0) := by rw [e5]; exact g9_made _ _ _ _ _ _ _ _ _ _ _
              have qa5 := qa.stay b45
              have R5 : Hid (Gb w w5 w.heap.size) := hr4.grow b45
              have K5 : Hid (Gb w w5 w4.heap.size) := by show Gb _ _ _; rw [e5]; exact gb_more hr4.bel _ _ _ _ _ _ _ _ _ _
              have DA : Hid (Dw w w5 g w3.heap.size w4.heap.size out a a) := ⟨R5.out, ((HD.out.b.grow b3).grow b34).grow b45, K4.keep (K4.keep (K4.keep HD.out.c b3) b34) b45, qa5.c0, qb.c0⟩
              have h35 : w3.heap.size ≠ w4.heap.size := by omega
              have hg5 : g ≠ w4.heap.size := by have := ((HD.out.b.grow b3).grow b34).hi; omega
              have hr5 : w.heap.size ≠ w4.heap.size := by have := hr4.hi; omega
              have HS4 : Hid (w3.heap.size + 1 = w4.heap.size) := s4.symm
              have E4 : Hid _ := e4
              have E5 : Hid _ := e5
              clear r0 r1 r2 r3 r4 r5 r6 r7 r8 fr0 fr1 fr2 fr3 fr4 fr5 fr6 fr7 fr8 x0 x1 x2 x3 x4 x5 x6 x7 x8 d0 d1 d2 d3 b3 hr3 hr4 b34 e4 e5 s4 b45 HD HR
              obtain ⟨k0, k1, k2, k3, k4, k5, k6, k7, k8⟩ := qa
              obtain ⟨l0, l1, l2, l3, l4, l5, l6, l7, l8⟩ := qa5
              obtain ⟨m10, m11, m12, m13, m14, m15, m16, m17, m18⟩ := qb
              go_upto_region 13 with (first | rw [← E4.out] | rw [← E5.out])
              generalize w3.heap.size = ga at *
              generalize w4.heap.size = gb at *
              clear E4 E5 HS4 k0 k1 k2 k3 k4 k5 k6 k7 k8
              go_cut [55] (fun v55 wc => v55 = .bool (decide (at1 < s.size ∧ byt s at1 = 45)) ∧ wc = w5)
              case first =>
                by_cases hl : at1 < s.size
                · have hj : ∀ w, (Instr.index 9 (.string s) (.int .i64 (at1 : Int))).run Tryz.prog w = .ok (.int .u8 ((byt s at1 : Nat) : Int)) w := fun w => idx_str s at1 hl w
                  have hjI : (at1 : Int) < (s.size : Int) := by omega
                  have hv : (decide (at1 < s.size ∧ byt s at1 = 45)) = ((((byt s at1 : Nat) : Int)) == 45) := by
                    by_cases h : byt s at1 = 45
                    · rw [h]; simp [hl]
                    · have : ((byt s at1 : Nat) : Int) ≠ 45 := by omega
                      simp [h, this]
                  have HV : Hid _ := hv
                  clear hv heq
                  generalize byt s at1 = y at *
                  go_wp2_with fail
                  go_meet
                  exact ⟨by rw [HV.out], rfl⟩
                · have hjI : ¬ (at1 : Int) < (s.size : Int) := by omega
                  have hv : (decide (at1 < s.size ∧ byt s at1 = 45)) = false := by simp [hl]
                  have HV : Hid _ := hv
                  clear hv heq
                  go_wp2_with fail
                  go_meet
                  exact ⟨by rw [HV.out], rfl⟩
              case rest =>
                obtain ⟨rfl, rfl⟩ := hcut
                go_upto_if 55 with fail
                go_cut [5] (fun v5 wc => ∃ n b : Nat, v5 = .int .i64 (n : Int) ∧ b < 256 ∧ q < n ∧ n ≤ s.size ∧ Dw w wc g ga gb out a b ∧ cli s (s.size + 1) (cst s op) (fun _ => false) 0 = cli s f' n (fun x => out x || rg a (b + 1) x) (items + 1))
                case first =>
                  by_cases h45 : at1 < s.size ∧ byt s at1 = 45
                  · rw [if_pos h45] at heq
                    rw [show decide (at1 < s.size ∧ byt s at1 = 45) = true from decide_eq_true h45]
                    have hwj : IntKind.i64.wrap ((at1 : Int) + 1) = (at1 : Int) + 1 := by rw [IntKind.wrap_i64]; omega
                    have CJ : Hid _ := fun (v : World) => item13_any s (at1 + 1) hs (by omega) v
                    rw [show ((at1 + 1 : Nat) : Int) = (at1 : Int) + 1 by omega] at CJ
                    clear h45
                    cases hr2 : itm s (at1 + 1) with
                    | error r =>
                      obtain ⟨p, c⟩ := r
                      have hc : ¬ (c : Int) = 0 := by have := esp_code0 hr2; omega
                      rw [hr2] at CJ heq
                      simp only at heq
                      have HF : Hid (clr s op = .error (p, c)) := clr_err heq
                      simp only [rdb, gotv] at CJ
                      clear heq hr2
                      go_wp2_with fail
                      refine Calls.mono (CJ.out _) ?_; rintro e w6 ⟨rfl, b6⟩
                      have K6 : Gb w w6 gb := K5.out.grow b6
                      have R6 : Gb w w6 w.heap.size := R5.out.grow b6
                      have D6 : Dw w w6 g ga gb out a a := DA.out.grow b6
                      obtain ⟨w7, e7⟩ : ∃ w7, w7 = set9 w6 gb (.int .u8 0) (.int .u64 0) (.int .u64 0) (.int .u64 0) (.int .u64 0) (.slice none 0 0) (.int .i64 0) (.int .i64 (p : Int)) (.int .i64 (c : Int)) := ⟨_, rfl⟩
                      have p7 := K6.put (.int .u8 0) (.int .u64 0) (.int .u64 0) (.int .u64 0) (.int .u64 0) (.slice none 0 0) (.int .i64 0) (.int .i64 (p : Int)) (.int .i64 (c : Int))
                      have hw7 := set9_wrote w6 gb (.int .u8 0) (.int .u64 0) (.int .u64 0) (.int .u64 0) (.int .u64 0) (.slice none 0 0) (.int .i64 0) (.int .i64 (p : Int)) (.int .i64 (c : Int))
                      rw [← e7] at p7 hw7
                      have hb7 : Below w.heap.size w w7 := p7.2.bel
                      have R7 : Hid (Gb w w7 w.heap.size) := R6.wrote hw7 (fun t e => hr5 e) hb7
                      unfold set9 at e7
                      have E7 : Hid _ := e7
                      have j0 : w7.cell? ⟨ga, 0, none⟩ = some (.int .u8 (a : Int)) := (hw7.cell _ 0 (fun e => h35 e)).trans D6.a0
                      have ff0 := K6.f 0
                      have ff1 := K6.f 1
                      have ff2 := K6.f 2
                      have ff3 := K6.f 3
                      have ff4 := K6.f 4
                      have ff5 := K6.f 5
                      have ff6 := K6.f 6
                      have ff7 := K6.f 7
                      have ff8 := K6.f 8
                      obtain ⟨y0, y1, y2, y3, y4, y5, y6, y7, y8, k0, k1, k2, k3, k4, k5, k6, k7, k8⟩ := K6.c
                      obtain ⟨l0, l1, l2, l3, l4, l5, l6, l7, l8⟩ := p7.1
                      have fr0 := R7.out.f 0
                      have fr1 := R7.out.f 1
                      have fr2 := R7.out.f 2
                      have fr3 := R7.out.f 3
                      have fr4 := R7.out.f 4
                      have fr5 := R7.out.f 5
                      have fr6 := R7.out.f 6
                      have fr7 := R7.out.f 7
                      have fr8 := R7.out.f 8
                      obtain ⟨z0, z1, z2, z3, z4, z5, z6, z7, z8, r0, r1, r2, r3, r4, r5, r6, r7, r8⟩ := R7.out.c
                      clear b6 e7
                      go_wp2_with (first | rw [← E7.out])
                      refine bodyPost_ret (results_got rfl _ _ w.heap.size rfl (R7.out.put _ _ _ _ _ _ _ _ _).1) rfl ?_
                      exact ⟨by rw [HF.out]; rfl, (R7.out.put _ _ _ _ _ _ _ _ _).2.bel⟩
                    | ok r =>
                      obtain ⟨b, at2⟩ := r
                      obtain ⟨m1, m2, m3⟩ := itm_next hr2
                      rw [hr2] at CJ heq
                      simp only at heq
                      simp only [rdb, gotv] at CJ
                      by_cases hab : b < a
                      · rw [if_pos hab] at heq
                        have habI : (b : Int) < (a : Int) := by omega
                        have HF : Hid (clr s op = .error (at1, 132)) := clr_err heq
                        clear heq hr2
                        go_wp2_with fail
                        refine Calls.mono (CJ.out _) ?_; rintro e w6 ⟨rfl, b6⟩
                        have K6 : Gb w w6 gb := K5.out.grow b6
                        have R6 : Gb w w6 w.heap.size := R5.out.grow b6
                        have D6 : Dw w w6 g ga gb out a a := DA.out.grow b6
                        obtain ⟨w7, e7⟩ : ∃ w7, w7 = set9 w6 gb (.int .u8 (b : Int)) (.int .u64 0) (.int .u64 0) (.int .u64 0) (.int .u64 0) (.slice none 0 0) (.int .i64 0) (.int .i64 (at2 : Int)) (.int .i64 0) := ⟨_, rfl⟩
                        have p7 := K6.put (.int .u8 (b : Int)) (.int .u64 0) (.int .u64 0) (.int .u64 0) (.int .u64 0) (.slice none 0 0) (.int .i64 0) (.int .i64 (at2 : Int)) (.int .i64 0)
                        have hw7 := set9_wrote w6 gb (.int .u8 (b : Int)) (.int .u64 0) (.int .u64 0) (.int .u64 0) (.int .u64 0) (.slice none 0 0) (.int .i64 0) (.int .i64 (at2 : Int)) (.int .i64 0)
                        rw [← e7] at p7 hw7
                        have hb7 : Below w.heap.size w w7 := p7.2.bel
                        have R7 : Hid (Gb w w7 w.heap.size) := R6.wrote hw7 (fun t e => hr5 e) hb7
                        unfold set9 at e7
                        have E7 : Hid _ := e7
                        have j0 : w7.cell? ⟨ga, 0, none⟩ = some (.int .u8 (a : Int)) := (hw7.cell _ 0 (fun e => h35 e)).trans D6.a0
                        have ff0 := K6.f 0
                        have ff1 := K6.f 1
                        have ff2 := K6.f 2
                        have ff3 := K6.f 3
                        have ff4 := K6.f 4
                        have ff5 := K6.f 5
                        have ff6 := K6.f 6
                        have ff7 := K6.f 7
                        have ff8 := K6.f 8
                        obtain ⟨y0, y1, y2, y3, y4, y5, y6, y7, y8, k0, k1, k2, k3, k4, k5, k6, k7, k8⟩ := K6.c
                        obtain ⟨l0, l1, l2, l3, l4, l5, l6, l7, l8⟩ := p7.1
                        have fr0 := R7.out.f 0
                        have fr1 := R7.out.f 1
                        have fr2 := R7.out.f 2
                        have fr3 := R7.out.f 3
                        have fr4 := R7.out.f 4
                        have fr5 := R7.out.f 5
                        have fr6 := R7.out.f 6
                        have fr7 := R7.out.f 7
                        have fr8 := R7.out.f 8
                        obtain ⟨z0, z1, z2, z3, z4, z5, z6, z7, z8, r0, r1, r2, r3, r4, r5, r6, r7, r8⟩ := R7.out.c
                        clear b6 e7
                        go_wp2_with (first | rw [← E7.out])
                        refine bodyPost_ret (results_got rfl _ _ w.heap.size rfl (R7.out.put _ _ _ _ _ _ _ _ _).1) rfl ?_
                        exact ⟨by rw [HF.out]; rfl, (R7.out.put _ _ _ _ _ _ _ _ _).2.bel⟩
                      · rw [if_neg hab] at heq
                        have habI : ¬ (b : Int) < (a : Int) := by omega
                        have HQ : Hid _ := heq
                        clear heq hr2
                        go_wp2_with fail
                        refine Calls.mono (CJ.out _) ?_; rintro e w6 ⟨rfl, b6⟩
                        have K6 : Gb w w6 gb := K5.out.grow b6
                        have R6 : Gb w w6 w.heap.size := R5.out.grow b6
                        have D6 : Dw w w6 g ga gb out a a := DA.out.grow b6
                        obtain ⟨w7, e7⟩ : ∃ w7, w7 = set9 w6 gb (.int .u8 (b : Int)) (.int .u64 0) (.int .u64 0) (.int .u64 0) (.int .u64 0) (.slice none 0 0) (.int .i64 0) (.int .i64 (at2 : Int)) (.int .i64 0) := ⟨_, rfl⟩
                        have p7 := K6.put (.int .u8 (b : Int)) (.int .u64 0) (.int .u64 0) (.int .u64 0) (.int .u64 0) (.slice none 0 0) (.int .i64 0) (.int .i64 (at2 : Int)) (.int .i64 0)
                        have hw7 := set9_wrote w6 gb (.int .u8 (b : Int)) (.int .u64 0) (.int .u64 0) (.int .u64 0) (.int .u64 0) (.slice none 0 0) (.int .i64 0) (.int .i64 (at2 : Int)) (.int .i64 0)
                        rw [← e7] at p7 hw7
                        have hb7 : Below w.heap.size w w7 := p7.2.bel
                        have R7 : Hid (Gb w w7 w.heap.size) := R6.wrote hw7 (fun t e => hr5 e) hb7
                        unfold set9 at e7
                        have E7 : Hid _ := e7
                        have j0 : w7.cell? ⟨ga, 0, none⟩ = some (.int .u8 (a : Int)) := (hw7.cell _ 0 (fun e => h35 e)).trans D6.a0
                        have ff0 := K6.f 0
                        have ff1 := K6.f 1
                        have ff2 := K6.f 2
                        have ff3 := K6.f 3
                        have ff4 := K6.f 4
                        have ff5 := K6.f 5
                        have ff6 := K6.f 6
                        have ff7 := K6.f 7
                        have ff8 := K6.f 8
                        obtain ⟨y0, y1, y2, y3, y4, y5, y6, y7, y8, k0, k1, k2, k3, k4, k5, k6, k7, k8⟩ := K6.c
                        obtain ⟨l0, l1, l2, l3, l4, l5, l6, l7, l8⟩ := p7.1
                        have fr0 := R7.out.f 0
                        have fr1 := R7.out.f 1
                        have fr2 := R7.out.f 2
                        have fr3 := R7.out.f 3
                        have fr4 := R7.out.f 4
                        have fr5 := R7.out.f 5
                        have fr6 := R7.out.f 6
                        have fr7 := R7.out.f 7
                        have fr8 := R7.out.f 8
                        obtain ⟨z0, z1, z2, z3, z4, z5, z6, z7, z8, r0, r1, r2, r3, r4, r5, r6, r7, r8⟩ := R7.out.c
                        clear b6 e7
                        have DW : Hid (Dw w w7 g ga gb out a b) := ⟨R7.out, D6.b.wrote hw7 (fun t e => hg5 e) hb7, K4.wrote D6.c hw7 (fun t e => hg5 e), (hw7.cell _ 0 (fun e => h35 e)).trans D6.a0, p7.1.c0⟩
                        clear D6 p7 hw7 hb7 K6 R6
                        go_wp2_with (first | rw [← E7.out])
                        go_meet
                        exact ⟨at2, b, rfl, m3, by omega, m2, DW.out, HQ.out⟩
                  · rw [if_neg h45] at heq
                    rw [show decide (at1 < s.size ∧ byt s at1 = 45) = false from decide_eq_false h45]
                    have HQ : Hid _ := heq
                    clear heq h45
                    go_wp2_with fail
                    go_meet
                    exact ⟨at1, a, rfl, n3, n1, n2, DA.out, HQ.out⟩
                case rest =>
                  obtain ⟨n, b, rfl, hb, hn1, hn2, dw, hq'⟩ := hcut
                  have HQ : Hid _ := hq'
                  have DW : Hid (Dw w wc g ga gb out a b) := dw
                  have CR : Hid _ := fun (v : World) => refRange_any a b n3 hb v
                  have CO : Hid _ := fun (v : World) => refOr_any out (rg a (b + 1)) v
                  clear heq hq' dw DA K5 R5 l0 l1 l2 l3 l4 l5 l6 l7 l8 m10 m11 m12 m13 m14 m15 m16 m17 m18
                  obtain ⟨d0, d1, d2, d3⟩ := DW.out.c
                  have ya := DW.out.a0
                  have yb := DW.out.b0
                  have z0 := DW.out.b.f 0
                  have z1 := DW.out.b.f 1
                  have z2 := DW.out.b.f 2
                  have z3 := DW.out.b.f 3
                  have hwi : IntKind.i64.wrap ((items : Int) + 1) = (items : Int) + 1 := by rw [IntKind.wrap_i64]; omega
                  go_wp2_with fail
                  go_region_with (first | (go_at_call 101; (with_reducible refine Calls.mono (CR.out _) ?_); rintro e vk ⟨rfl, bb⟩; have DB : Hid (Dw w vk g ga gb out a b) := DW.out.grow (by first | exact undrew bb | exact bb); clear bb DW d0 d1 d2 d3 ya yb z0 z1 z2 z3; have DW : Hid (Dw w vk g ga gb out a b) := DB.out; clear DB; obtain ⟨d0, d1, d2, d3⟩ := DW.out.c; have ya := DW.out.a0; have yb := DW.out.b0; have z0 := DW.out.b.f 0; have z1 := DW.out.b.f 1; have z2 := DW.out.b.f 2; have z3 := DW.out.b.f 3) | (go_at_call 118; (with_reducible refine Calls.mono (CO.out _) ?_); rintro e vk ⟨rfl, bb⟩; have DB : Hid (Dw w vk g ga gb out a b) := DW.out.grow (by first | exact undrew bb | exact bb); clear bb DW d0 d1 d2 d3 ya yb z0 z1 z2 z3; have DW : Hid (Dw w vk g ga gb out a b) := DB.out; clear DB; obtain ⟨d0, d1, d2, d3⟩ := DW.out.c; have ya := DW.out.a0; have yb := DW.out.b0; have z0 := DW.out.b.f 0; have z1 := DW.out.b.f 1; have z2 := DW.out.b.f 2; have z3 := DW.out.b.f 3))
                  all_goals
                    go_wp2_with fail
                    go_roundw
                    case rel =>
                      have hp := DW.out.b.put (.int .u64 ((wd (fun x => out x || rg a (b + 1) x) 0 : Nat) : Int)) (.int .u64 ((wd (fun x => out x || rg a (b + 1) x) 1 : Nat) : Int)) (.int .u64 ((wd (fun x => out x || rg a (b + 1) x) 2 : Nat) : Int)) (.int .u64 ((wd (fun x => out x || rg a (b + 1) x) 3 : Nat) : Int))
                      have ho := DW.out.r.wrote (set4v_wrote _ g (.int .u64 ((wd (fun x => out x || rg a (b + 1) x) 0 : Nat) : Int)) (.int .u64 ((wd (fun x => out x || rg a (b + 1) x) 1 : Nat) : Int)) (.int .u64 ((wd (fun x => out x || rg a (b + 1) x) 2 : Nat) : Int)) (.int .u64 ((wd (fun x => out x || rg a (b + 1) x) 3 : Nat) : Int))) (fun t e => hne e) hp.2.bel
                      exact ⟨n, items + 1, f', fun x => out x || rg a (b + 1) x, rfl, by go_num, ⟨ho, hp.2, hp.1, by omega, hn2, by omega, by omega, HQ.out⟩⟩
                    case measure => simp [intOf]; omega

end Cls
end Go.Proofs.YtbnnobeahliffaaGreatDoor
