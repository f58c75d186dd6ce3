/- Contract of beagleref13.element. (Written by mktk8.py.) -/
import Derived.Test.YtbnnobeahliffaaGreatDoorTkRf1
import Derived.Test.YtbnnobeahliffaaGreatDoorTkRd6
set_option linter.unusedVariables false
namespace Go.Proofs.YtbnnobeahliffaaGreatDoor
open Go.RowKit
namespace Cls

/-- What is told of an element, as a 'Got'. -/
def Rde (r : Rd (Nat → Bool)) (e : Ending) : Prop := ∃ (b : Int) (f : Nat → Bool), e = .returned (gotv b ((wd (f) 0 : Nat) : Int) ((wd (f) 1 : Nat) : Int) ((wd (f) 2 : Nat) : Int) ((wd (f) 3 : Nat) : Int) (.slice none 0 0) 0 (rpl r : Nat) (rcd r : Nat)) ∧ ∀ g n, r = .ok (g, n) → f = g

theorem refFull_true (w : World) :
    Calls Tryz.prog 97 #[] w fun e w' => e = .returned (.agg #[.int .u64 ((wd (fun _ => true) 0 : Nat) : Int), .int .u64 ((wd (fun _ => true) 1 : Nat) : Int), .int .u64 ((wd (fun _ => true) 2 : Nat) : Int), .int .u64 ((wd (fun _ => true) 3 : Nat) : Int)]) ∧ Below w.heap.size w w' := by
  have h := refFull_any w
  have e : ∀ k, k < 4 → wd (rg 0 256) k = wd (fun _ => true) k := fun k hk => wd_congr (fun b hb => by unfold rg; simp; omega) hk
  rw [e 0 (by omega), e 1 (by omega), e 2 (by omega), e 3 (by omega)] at h
  exact h

/-- The words of a 'Got', written. -/
def set4c (v : World) (g : Nat) (x1 x2 x3 x4 : Value) : World :=
  (((v.setCell ⟨g, 1, none⟩ x1).setCell ⟨g, 2, none⟩ x2).setCell ⟨g, 3, none⟩ x3).setCell ⟨g, 4, none⟩ x4

theorem set4c_wrote (v : World) (g : Nat) (x1 x2 x3 x4 : Value) : Wrote (fun b _ => b = g) v (set4c v g x1 x2 x3 x4) :=
  (((Wrote.refl (fun b _ => b = g) v).setCell rfl _).setCell rfl _).setCell rfl _ |>.setCell rfl _

theorem G9.words {v : World} {g : Nat} {v0 v1 v2 v3 v4 v5 v6 v7 v8 : Value} (h : G9 v g v0 v1 v2 v3 v4 v5 v6 v7 v8) (x1 x2 x3 x4 : Value) : G9 (set4c v g x1 x2 x3 x4) g v0 x1 x2 x3 x4 v5 v6 v7 v8 := by
  have hF : Cv v g 9 (fun t => match t with | 0 => v0 | 1 => v1 | 2 => v2 | 3 => v3 | 4 => v4 | 5 => v5 | 6 => v6 | 7 => v7 | _ => v8) := fun t ht => by
    match t, ht with
    | 0, _ => exact h.c0
    | 1, _ => exact h.c1
    | 2, _ => exact h.c2
    | 3, _ => exact h.c3
    | 4, _ => exact h.c4
    | 5, _ => exact h.c5
    | 6, _ => exact h.c6
    | 7, _ => exact h.c7
    | 8, _ => exact h.c8
  have hG := (((hF.put 1 x1).put 2 x2).put 3 x3).put 4 x4
  exact ⟨hG 0 (by decide), hG 1 (by decide), hG 2 (by decide), hG 3 (by decide), hG 4 (by decide), hG 5 (by decide), hG 6 (by decide), hG 7 (by decide), hG 8 (by decide)⟩

set_option maxRecDepth 100000 in
set_option maxHeartbeats 4000000 in
theorem element13_any (s : ByteArray) (q : Nat) (hs : s.size ≤ 1000000) (hq : q < s.size) (w : World) :
    Calls Tryz.prog 80 #[.string s, .int .i64 (q : Int)] w fun e w' => Rde (elm s q) e ∧ Below w.heap.size w w' := by
  have l1 := byt_lt s q
  obtain ⟨w1, e1⟩ : ∃ w1, w1 = w.alloc (.cells #[.int .u8 0, .int .u64 0, .int .u64 0, .int .u64 0, .int .u64 0, .slice none 0 0, .int .i64 0, .int .i64 0, .int .i64 0] 80) := ⟨_, rfl⟩
  obtain ⟨w2, e2⟩ : ∃ w2, w2 = w1.alloc (.cells #[.int .u8 ((byt s q : Nat) : Int), .int .u64 0, .int .u64 0, .int .u64 0, .int .u64 0, .slice none 0 0, .int .i64 0, .int .i64 ((q : Int) + 1), .int .i64 0] 80) := ⟨_, rfl⟩
  have b1 : Below w.heap.size w w1 := by rw [e1]; exact al_below _ _
  have b2 : Below w1.heap.size w1 w2 := by rw [e2]; exact al_below _ _
  have s1 : w1.heap.size = w.heap.size + 1 := by rw [e1, al_size]
  have k1 : Gb w w1 w.heap.size := by rw [e1]; exact gb_more (Below.refl _ _) _ _ _ _ _ _ _ _ _ _
  have k2 : Gb w w2 w1.heap.size := by rw [e2]; exact gb_more b1 _ _ _ _ _ _ _ _ _ _
  have q2 : G9 w2 w1.heap.size (.int .u8 ((byt s q : Nat) : Int)) (.int .u64 0) (.int .u64 0) (.int .u64 0) (.int .u64 0) (.slice none 0 0) (.int .i64 0) (.int .i64 ((q : Int) + 1)) (.int .i64 0) := by rw [e2]; exact g9_made _ _ _ _ _ _ _ _ _ _ _
  have R1 : Hid (Gb w w1 w.heap.size) := k1
  have R2 : Hid (Gb w w2 w.heap.size) := k1.grow b2
  have K2 : Hid (Gb w w2 w1.heap.size) := k2
  have Q2 : Hid _ := q2
  have E1 : Hid _ := e1
  have E2 : Hid _ := e2
  obtain ⟨gb, hgb⟩ : ∃ gb, gb = w.heap.size + 1 := ⟨_, rfl⟩
  have hg1 : w1.heap.size = gb := by omega
  have hne : w.heap.size ≠ gb := by omega
  rw [hg1] at K2 Q2
  have HG : Hid (w.heap.size + 1 = gb) := hgb.symm
  have HG1 : Hid (w1.heap.size = gb) := hg1
  have hi : ∀ w, (Instr.index 9 (.string s) (.int .i64 (q : Int))).run Tryz.prog w = .ok (.int .u8 ((byt s q : Nat) : Int)) w := fun w => idx_str s q hq w
  have hw1 : IntKind.i64.wrap ((q : Int) + 1) = (q : Int) + 1 := by rw [IntKind.wrap_i64]; omega
  clear e1 e2 b1 b2 s1 k1 k2 q2 hgb hg1
  by_cases h63 : byt s q = 63
  · have HF : Hid (elm s q = .ok (fun _ => true, q + 1)) := by show _ = _; unfold elm; rw [if_pos h63]
    have CF : Hid _ := fun (v : World) => refFull_true v
    rw [h63] at hi
    go_enter Tryz.func80, Tryz.ntmps80
    go_wp2_with (first | rw [← E1.out])
    refine Calls.mono (CF.out _) ?_; rintro e w3 ⟨rfl, b3⟩
    have H3 : Hid (Gb w w3 w.heap.size) := R1.out.grow b3
    clear b3
    obtain ⟨y0, y1, y2, y3, y4, y5, y6, y7, y8, c0, c1, c2, c3, c4, c5, c6, c7, c8⟩ := H3.out.c
    have fr0 := H3.out.f 0
    have fr1 := H3.out.f 1
    have fr2 := H3.out.f 2
    have fr3 := H3.out.f 3
    have fr4 := H3.out.f 4
    have fr5 := H3.out.f 5
    have fr6 := H3.out.f 6
    have fr7 := H3.out.f 7
    have fr8 := H3.out.f 8
    go_wp2_with fail
    refine bodyPost_ret (results_got rfl _ _ w.heap.size rfl (H3.out.put _ _ _ _ _ _ _ _ _).1) rfl ?_
    exact ⟨⟨_, fun _ => true, by rw [HF.out]; rfl, fun g n e => by rw [HF.out] at e; simp only [Except.ok.injEq, Prod.mk.injEq] at e; exact e.1⟩, (H3.out.put _ _ _ _ _ _ _ _ _).2.bel⟩
  · have h63I : ((((byt s q : Nat) : Int)) == 63) = false := beq_eq_false_iff_ne.2 (by omega)
    by_cases h91 : byt s q = 91
    · have HF : Hid (elm s q = clr s q) := by show _ = _; unfold elm; rw [if_neg h63, if_pos h91]
      have CC : Hid _ := fun (v : World) => class13_any s q hs hq v
      rw [h91] at hi
      clear h63I h63
      cases hr : clr s q with
      | ok r =>
        obtain ⟨f, n⟩ := r
        rw [hr] at CC HF
        simp only [rdc, gotv] at CC
        go_enter Tryz.func80, Tryz.ntmps80
        go_wp2_with (first | rw [← E1.out])
        refine Calls.mono (CC.out _) ?_; rintro e w3 ⟨rfl, b3⟩
        have H3 : Hid (Gb w w3 w.heap.size) := R1.out.grow b3
        clear b3
        obtain ⟨y0, y1, y2, y3, y4, y5, y6, y7, y8, c0, c1, c2, c3, c4, c5, c6, c7, c8⟩ := H3.out.c
        have fr0 := H3.out.f 0
        have fr1 := H3.out.f 1
        have fr2 := H3.out.f 2
        have fr3 := H3.out.f 3
        have fr4 := H3.out.f 4
        have fr5 := H3.out.f 5
        have fr6 := H3.out.f 6
        have fr7 := H3.out.f 7
        have fr8 := H3.out.f 8
        go_wp2_with fail
        refine bodyPost_ret (results_got rfl _ _ w.heap.size rfl (H3.out.put _ _ _ _ _ _ _ _ _).1) rfl ?_
        exact ⟨⟨_, f, by rw [HF.out]; rfl, fun g n e => by rw [HF.out] at e; simp only [Except.ok.injEq, Prod.mk.injEq] at e; exact e.1⟩, (H3.out.put _ _ _ _ _ _ _ _ _).2.bel⟩
      | error r =>
        obtain ⟨p, c⟩ := r
        rw [hr] at CC HF
        simp only [rdc, gotv] at CC
        go_enter Tryz.func80, Tryz.ntmps80
        go_wp2_with (first | rw [← E1.out])
        refine Calls.mono (CC.out _) ?_; rintro e w3 ⟨rfl, b3⟩
        have H3 : Hid (Gb w w3 w.heap.size) := R1.out.grow b3
        clear b3
        obtain ⟨y0, y1, y2, y3, y4, y5, y6, y7, y8, c0, c1, c2, c3, c4, c5, c6, c7, c8⟩ := H3.out.c
        have fr0 := H3.out.f 0
        have fr1 := H3.out.f 1
        have fr2 := H3.out.f 2
        have fr3 := H3.out.f 3
        have fr4 := H3.out.f 4
        have fr5 := H3.out.f 5
        have fr6 := H3.out.f 6
        have fr7 := H3.out.f 7
        have fr8 := H3.out.f 8
        go_wp2_with fail
        refine bodyPost_ret (results_got rfl _ _ w.heap.size rfl (H3.out.put _ _ _ _ _ _ _ _ _).1) rfl ?_
        exact ⟨⟨_, fun _ => false, by rw [HF.out]; simp only [wd_none]; rfl, fun g n e => by rw [HF.out] at e; cases e⟩, (H3.out.put _ _ _ _ _ _ _ _ _).2.bel⟩
    · have h91I : ((((byt s q : Nat) : Int)) == 91) = false := beq_eq_false_iff_ne.2 (by omega)
      obtain ⟨k0, k1, k2, k3, k4, k5, k6, k7, k8⟩ := Q2.out
      obtain ⟨x0, x1, x2, x3, x4, x5, x6, x7, x8, r0, r1, r2, r3, r4, r5, r6, r7, r8⟩ := R2.out.c
      have fr0 := R2.out.f 0
      have fr1 := R2.out.f 1
      have fr2 := R2.out.f 2
      have fr3 := R2.out.f 3
      have fr4 := R2.out.f 4
      have fr5 := R2.out.f 5
      have fr6 := R2.out.f 6
      have fr7 := R2.out.f 7
      have fr8 := R2.out.f 8
      by_cases h92 : byt s q = 92
      · have CE : Hid _ := fun (v : World) => escape13_any s q hs (by omega) v
        have h92I : ((((byt s q : Nat) : Int)) == 92) = true := beq_iff_eq.2 (by omega)
        cases hr : esp s q with
        | ok r =>
          obtain ⟨b, n⟩ := r
          have hb := (esp_next hr).2.2
          have CR : Hid _ := fun (v : World) => refRange_any b b hb hb v
          have HF : Hid (elm s q = .ok (rg b (b + 1), n)) := by show _ = _; unfold elm; rw [if_neg h63, if_neg h91, if_pos h92, hr]
          rw [hr] at CE
          simp only [rdb, gotv] at CE
          clear h92 h63 h91 hr
          generalize byt s q = y at *
          go_enter Tryz.func80, Tryz.ntmps80
          go_wp2_with (first | rw [← E1.out] | rw [← E2.out])
          refine Calls.mono (CE.out _) ?_; rintro e w3 ⟨rfl, b3⟩
          have R3 := R2.out.grow b3
          have K3 := K2.out.grow b3
          obtain ⟨w5, e5⟩ : ∃ w5, w5 = set9 w3 gb (.int .u8 (b : Int)) (.int .u64 0) (.int .u64 0) (.int .u64 0) (.int .u64 0) (.slice none 0 0) (.int .i64 0) (.int .i64 (n : Int)) (.int .i64 0) := ⟨_, rfl⟩
          have p5 := K3.put (.int .u8 (b : Int)) (.int .u64 0) (.int .u64 0) (.int .u64 0) (.int .u64 0) (.slice none 0 0) (.int .i64 0) (.int .i64 (n : Int)) (.int .i64 0)
          have hw5 := set9_wrote w3 gb (.int .u8 (b : Int)) (.int .u64 0) (.int .u64 0) (.int .u64 0) (.int .u64 0) (.slice none 0 0) (.int .i64 0) (.int .i64 (n : Int)) (.int .i64 0)
          rw [← e5] at p5 hw5
          have RX : Hid (Gb w w5 w.heap.size) := R3.wrote hw5 (fun t e => hne e) p5.2.bel
          have KX : Hid (Gb w w5 gb) := p5.2
          have QX : Hid (G9 w5 gb (.int .u8 (b : Int)) (.int .u64 0) (.int .u64 0) (.int .u64 0) (.int .u64 0) (.slice none 0 0) (.int .i64 0) (.int .i64 (n : Int)) (.int .i64 0)) := p5.1
          unfold set9 at e5
          have E5 : Hid _ := e5
          clear k0 k1 k2 k3 k4 k5 k6 k7 k8 fr0 fr1 fr2 fr3 fr4 fr5 fr6 fr7 fr8 r0 r1 r2 r3 r4 r5 r6 r7 r8 e5 hw5 p5
          have ff0 := K3.f 0
          have ff1 := K3.f 1
          have ff2 := K3.f 2
          have ff3 := K3.f 3
          have ff4 := K3.f 4
          have ff5 := K3.f 5
          have ff6 := K3.f 6
          have ff7 := K3.f 7
          have ff8 := K3.f 8
          obtain ⟨z0, z1, z2, z3, z4, z5, z6, z7, z8, l0, l1, l2, l3, l4, l5, l6, l7, l8⟩ := K3.c
          clear K3 R3
          obtain ⟨k0, k1, k2, k3, k4, k5, k6, k7, k8⟩ := QX.out
          try rw [HG1.out]
          go_wp2_with (first | rw [← E5.out])
          refine Calls.mono (CR.out w5) ?_; rintro e w6 ⟨rfl, b6⟩
          have R6 := RX.out.grow b6
          have K6 := KX.out.grow b6
          have Q6 := QX.out.stay b6
          obtain ⟨w7, e7⟩ : ∃ w7, w7 = set4c w6 gb (.int .u64 ((wd (rg b (b + 1)) 0 : Nat) : Int)) (.int .u64 ((wd (rg b (b + 1)) 1 : Nat) : Int)) (.int .u64 ((wd (rg b (b + 1)) 2 : Nat) : Int)) (.int .u64 ((wd (rg b (b + 1)) 3 : Nat) : Int)) := ⟨_, rfl⟩
          have hw7 := set4c_wrote w6 gb (.int .u64 ((wd (rg b (b + 1)) 0 : Nat) : Int)) (.int .u64 ((wd (rg b (b + 1)) 1 : Nat) : Int)) (.int .u64 ((wd (rg b (b + 1)) 2 : Nat) : Int)) (.int .u64 ((wd (rg b (b + 1)) 3 : Nat) : Int))
          have q7 := Q6.words (.int .u64 ((wd (rg b (b + 1)) 0 : Nat) : Int)) (.int .u64 ((wd (rg b (b + 1)) 1 : Nat) : Int)) (.int .u64 ((wd (rg b (b + 1)) 2 : Nat) : Int)) (.int .u64 ((wd (rg b (b + 1)) 3 : Nat) : Int))
          rw [← e7] at hw7 q7
          have B7 : Below w.heap.size w w7 := R6.bel.trans (hw7.below (fun b o e => by have := K6.low; omega))
          have R7 : Hid (Gb w w7 w.heap.size) := R6.wrote hw7 (fun t e => hne e) B7
          unfold set4c at e7
          have E7 : Hid _ := e7
          clear k0 k1 k2 k3 k4 k5 k6 k7 k8 e7 hw7
          obtain ⟨k0, k1, k2, k3, k4, k5, k6, k7, k8⟩ := Q6
          obtain ⟨m0, m1, m2, m3, m4, m5, m6, m7, m8⟩ := q7
          have ff0 := K6.f 0
          have ff1 := K6.f 1
          have ff2 := K6.f 2
          have ff3 := K6.f 3
          have ff4 := K6.f 4
          have ff5 := K6.f 5
          have ff6 := K6.f 6
          have ff7 := K6.f 7
          have ff8 := K6.f 8
          have fr0 := R7.out.f 0
          have fr1 := R7.out.f 1
          have fr2 := R7.out.f 2
          have fr3 := R7.out.f 3
          have fr4 := R7.out.f 4
          have fr5 := R7.out.f 5
          have fr6 := R7.out.f 6
          have fr7 := R7.out.f 7
          have fr8 := R7.out.f 8
          obtain ⟨x0, x1, x2, x3, x4, x5, x6, x7, x8, r0, r1, r2, r3, r4, r5, r6, r7, r8⟩ := R7.out.c
          go_wp2_with (first | rw [← E7.out])
          refine bodyPost_ret (results_got rfl _ _ w.heap.size rfl (R7.out.put _ _ _ _ _ _ _ _ _).1) rfl ?_
          exact ⟨⟨_, rg b (b + 1), by rw [HF.out]; rfl, fun g n e => by rw [HF.out] at e; simp only [Except.ok.injEq, Prod.mk.injEq] at e; exact e.1⟩, (R7.out.put _ _ _ _ _ _ _ _ _).2.bel⟩
        | error r =>
          obtain ⟨p, c⟩ := r
          have CR : Hid _ := fun (v : World) => refRange_any 0 0 (by decide) (by decide) v
          have HF : Hid (elm s q = .error (p, c)) := by show _ = _; unfold elm; rw [if_neg h63, if_neg h91, if_pos h92, hr]
          rw [hr] at CE
          simp only [rdb, gotv] at CE
          clear h92 h63 h91 hr
          generalize byt s q = y at *
          go_enter Tryz.func80, Tryz.ntmps80
          go_wp2_with (first | rw [← E1.out] | rw [← E2.out])
          refine Calls.mono (CE.out _) ?_; rintro e w3 ⟨rfl, b3⟩
          have R3 := R2.out.grow b3
          have K3 := K2.out.grow b3
          obtain ⟨w5, e5⟩ : ∃ w5, w5 = set9 w3 gb (.int .u8 0) (.int .u64 0) (.int .u64 0) (.int .u64 0) (.int .u64 0) (.slice none 0 0) (.int .i64 0) (.int .i64 (p : Int)) (.int .i64 (c : Int)) := ⟨_, rfl⟩
          have p5 := K3.put (.int .u8 0) (.int .u64 0) (.int .u64 0) (.int .u64 0) (.int .u64 0) (.slice none 0 0) (.int .i64 0) (.int .i64 (p : Int)) (.int .i64 (c : Int))
          have hw5 := set9_wrote w3 gb (.int .u8 0) (.int .u64 0) (.int .u64 0) (.int .u64 0) (.int .u64 0) (.slice none 0 0) (.int .i64 0) (.int .i64 (p : Int)) (.int .i64 (c : Int))
          rw [← e5] at p5 hw5
          have RX : Hid (Gb w w5 w.heap.size) := R3.wrote hw5 (fun t e => hne e) p5.2.bel
          have KX : Hid (Gb w w5 gb) := p5.2
          have QX : Hid (G9 w5 gb (.int .u8 0) (.int .u64 0) (.int .u64 0) (.int .u64 0) (.int .u64 0) (.slice none 0 0) (.int .i64 0) (.int .i64 (p : Int)) (.int .i64 (c : Int))) := p5.1
          unfold set9 at e5
          have E5 : Hid _ := e5
          clear k0 k1 k2 k3 k4 k5 k6 k7 k8 fr0 fr1 fr2 fr3 fr4 fr5 fr6 fr7 fr8 r0 r1 r2 r3 r4 r5 r6 r7 r8 e5 hw5 p5
          have ff0 := K3.f 0
          have ff1 := K3.f 1
          have ff2 := K3.f 2
          have ff3 := K3.f 3
          have ff4 := K3.f 4
          have ff5 := K3.f 5
          have ff6 := K3.f 6
          have ff7 := K3.f 7
          have ff8 := K3.f 8
          obtain ⟨z0, z1, z2, z3, z4, z5, z6, z7, z8, l0, l1, l2, l3, l4, l5, l6, l7, l8⟩ := K3.c
          clear K3 R3
          obtain ⟨k0, k1, k2, k3, k4, k5, k6, k7, k8⟩ := QX.out
          try rw [HG1.out]
          go_wp2_with (first | rw [← E5.out])
          refine Calls.mono (CR.out w5) ?_; rintro e w6 ⟨rfl, b6⟩
          have R6 := RX.out.grow b6
          have K6 := KX.out.grow b6
          have Q6 := QX.out.stay b6
          obtain ⟨w7, e7⟩ : ∃ w7, w7 = set4c w6 gb (.int .u64 ((wd (rg 0 (0 + 1)) 0 : Nat) : Int)) (.int .u64 ((wd (rg 0 (0 + 1)) 1 : Nat) : Int)) (.int .u64 ((wd (rg 0 (0 + 1)) 2 : Nat) : Int)) (.int .u64 ((wd (rg 0 (0 + 1)) 3 : Nat) : Int)) := ⟨_, rfl⟩
          have hw7 := set4c_wrote w6 gb (.int .u64 ((wd (rg 0 (0 + 1)) 0 : Nat) : Int)) (.int .u64 ((wd (rg 0 (0 + 1)) 1 : Nat) : Int)) (.int .u64 ((wd (rg 0 (0 + 1)) 2 : Nat) : Int)) (.int .u64 ((wd (rg 0 (0 + 1)) 3 : Nat) : Int))
          have q7 := Q6.words (.int .u64 ((wd (rg 0 (0 + 1)) 0 : Nat) : Int)) (.int .u64 ((wd (rg 0 (0 + 1)) 1 : Nat) : Int)) (.int .u64 ((wd (rg 0 (0 + 1)) 2 : Nat) : Int)) (.int .u64 ((wd (rg 0 (0 + 1)) 3 : Nat) : Int))
          rw [← e7] at hw7 q7
          have B7 : Below w.heap.size w w7 := R6.bel.trans (hw7.below (fun b o e => by have := K6.low; omega))
          have R7 : Hid (Gb w w7 w.heap.size) := R6.wrote hw7 (fun t e => hne e) B7
          unfold set4c at e7
          have E7 : Hid _ := e7
          clear k0 k1 k2 k3 k4 k5 k6 k7 k8 e7 hw7
          obtain ⟨k0, k1, k2, k3, k4, k5, k6, k7, k8⟩ := Q6
          obtain ⟨m0, m1, m2, m3, m4, m5, m6, m7, m8⟩ := q7
          have ff0 := K6.f 0
          have ff1 := K6.f 1
          have ff2 := K6.f 2
          have ff3 := K6.f 3
          have ff4 := K6.f 4
          have ff5 := K6.f 5
          have ff6 := K6.f 6
          have ff7 := K6.f 7
          have ff8 := K6.f 8
          have fr0 := R7.out.f 0
          have fr1 := R7.out.f 1
          have fr2 := R7.out.f 2
          have fr3 := R7.out.f 3
          have fr4 := R7.out.f 4
          have fr5 := R7.out.f 5
          have fr6 := R7.out.f 6
          have fr7 := R7.out.f 7
          have fr8 := R7.out.f 8
          obtain ⟨x0, x1, x2, x3, x4, x5, x6, x7, x8, r0, r1, r2, r3, r4, r5, r6, r7, r8⟩ := R7.out.c
          go_wp2_with (first | rw [← E7.out])
          refine bodyPost_ret (results_got rfl _ _ w.heap.size rfl (R7.out.put _ _ _ _ _ _ _ _ _).1) rfl ?_
          exact ⟨⟨_, rg 0 (0 + 1), by rw [HF.out]; rfl, fun g n e => by rw [HF.out] at e; cases e⟩, (R7.out.put _ _ _ _ _ _ _ _ _).2.bel⟩
      · have h92I : ((((byt s q : Nat) : Int)) == 92) = false := beq_eq_false_iff_ne.2 (by omega)
        have CS : Hid _ := fun (v : World) => sign13_any (byt s q) v
        cases hsg : sgn (byt s q) with
        | false =>
          have CR : Hid _ := fun (v : World) => refRange_any 0 0 (by decide) (by decide) v
          have HF : Hid (elm s q = .error (q, 130)) := by show _ = _; unfold elm; rw [if_neg h63, if_neg h91, if_neg h92, if_pos hsg]
          rw [hsg] at CS
          clear h92 h63 h91 hsg
          generalize byt s q = y at *
          go_enter Tryz.func80, Tryz.ntmps80
          go_wp2_with (first | rw [← E1.out] | rw [← E2.out])
          refine Calls.mono (CS.out _) ?_; rintro e w3 ⟨rfl, b3⟩
          have R3 := R2.out.grow b3
          have K3 := K2.out.grow b3
          obtain ⟨w5, e5⟩ : ∃ w5, w5 = set9 w3 gb (.int .u8 0) (.int .u64 0) (.int .u64 0) (.int .u64 0) (.int .u64 0) (.slice none 0 0) (.int .i64 0) (.int .i64 (q : Int)) (.int .i64 130) := ⟨_, rfl⟩
          have p5 := K3.put (.int .u8 0) (.int .u64 0) (.int .u64 0) (.int .u64 0) (.int .u64 0) (.slice none 0 0) (.int .i64 0) (.int .i64 (q : Int)) (.int .i64 130)
          have hw5 := set9_wrote w3 gb (.int .u8 0) (.int .u64 0) (.int .u64 0) (.int .u64 0) (.int .u64 0) (.slice none 0 0) (.int .i64 0) (.int .i64 (q : Int)) (.int .i64 130)
          rw [← e5] at p5 hw5
          have RX : Hid (Gb w w5 w.heap.size) := R3.wrote hw5 (fun t e => hne e) p5.2.bel
          have KX : Hid (Gb w w5 gb) := p5.2
          have QX : Hid (G9 w5 gb (.int .u8 0) (.int .u64 0) (.int .u64 0) (.int .u64 0) (.int .u64 0) (.slice none 0 0) (.int .i64 0) (.int .i64 (q : Int)) (.int .i64 130)) := p5.1
          unfold set9 at e5
          have E5 : Hid _ := e5
          clear k0 k1 k2 k3 k4 k5 k6 k7 k8 fr0 fr1 fr2 fr3 fr4 fr5 fr6 fr7 fr8 r0 r1 r2 r3 r4 r5 r6 r7 r8 e5 hw5 p5
          have ff0 := K3.f 0
          have ff1 := K3.f 1
          have ff2 := K3.f 2
          have ff3 := K3.f 3
          have ff4 := K3.f 4
          have ff5 := K3.f 5
          have ff6 := K3.f 6
          have ff7 := K3.f 7
          have ff8 := K3.f 8
          obtain ⟨z0, z1, z2, z3, z4, z5, z6, z7, z8, l0, l1, l2, l3, l4, l5, l6, l7, l8⟩ := K3.c
          clear K3 R3
          obtain ⟨k0, k1, k2, k3, k4, k5, k6, k7, k8⟩ := QX.out
          try rw [HG1.out]
          go_wp2_with (first | rw [← E5.out])
          refine Calls.mono (CR.out w5) ?_; rintro e w6 ⟨rfl, b6⟩
          have R6 := RX.out.grow b6
          have K6 := KX.out.grow b6
          have Q6 := QX.out.stay b6
          obtain ⟨w7, e7⟩ : ∃ w7, w7 = set4c w6 gb (.int .u64 ((wd (rg 0 (0 + 1)) 0 : Nat) : Int)) (.int .u64 ((wd (rg 0 (0 + 1)) 1 : Nat) : Int)) (.int .u64 ((wd (rg 0 (0 + 1)) 2 : Nat) : Int)) (.int .u64 ((wd (rg 0 (0 + 1)) 3 : Nat) : Int)) := ⟨_, rfl⟩
          have hw7 := set4c_wrote w6 gb (.int .u64 ((wd (rg 0 (0 + 1)) 0 : Nat) : Int)) (.int .u64 ((wd (rg 0 (0 + 1)) 1 : Nat) : Int)) (.int .u64 ((wd (rg 0 (0 + 1)) 2 : Nat) : Int)) (.int .u64 ((wd (rg 0 (0 + 1)) 3 : Nat) : Int))
          have q7 := Q6.words (.int .u64 ((wd (rg 0 (0 + 1)) 0 : Nat) : Int)) (.int .u64 ((wd (rg 0 (0 + 1)) 1 : Nat) : Int)) (.int .u64 ((wd (rg 0 (0 + 1)) 2 : Nat) : Int)) (.int .u64 ((wd (rg 0 (0 + 1)) 3 : Nat) : Int))
          rw [← e7] at hw7 q7
          have B7 : Below w.heap.size w w7 := R6.bel.trans (hw7.below (fun b o e => by have := K6.low; omega))
          have R7 : Hid (Gb w w7 w.heap.size) := R6.wrote hw7 (fun t e => hne e) B7
          unfold set4c at e7
          have E7 : Hid _ := e7
          clear k0 k1 k2 k3 k4 k5 k6 k7 k8 e7 hw7
          obtain ⟨k0, k1, k2, k3, k4, k5, k6, k7, k8⟩ := Q6
          obtain ⟨m0, m1, m2, m3, m4, m5, m6, m7, m8⟩ := q7
          have ff0 := K6.f 0
          have ff1 := K6.f 1
          have ff2 := K6.f 2
          have ff3 := K6.f 3
          have ff4 := K6.f 4
          have ff5 := K6.f 5
          have ff6 := K6.f 6
          have ff7 := K6.f 7
          have ff8 := K6.f 8
          have fr0 := R7.out.f 0
          have fr1 := R7.out.f 1
          have fr2 := R7.out.f 2
          have fr3 := R7.out.f 3
          have fr4 := R7.out.f 4
          have fr5 := R7.out.f 5
          have fr6 := R7.out.f 6
          have fr7 := R7.out.f 7
          have fr8 := R7.out.f 8
          obtain ⟨x0, x1, x2, x3, x4, x5, x6, x7, x8, r0, r1, r2, r3, r4, r5, r6, r7, r8⟩ := R7.out.c
          go_wp2_with (first | rw [← E7.out])
          refine bodyPost_ret (results_got rfl _ _ w.heap.size rfl (R7.out.put _ _ _ _ _ _ _ _ _).1) rfl ?_
          exact ⟨⟨_, rg 0 (0 + 1), by rw [HF.out]; rfl, fun g n e => by rw [HF.out] at e; cases e⟩, (R7.out.put _ _ _ _ _ _ _ _ _).2.bel⟩
        | true =>
          have CR : Hid _ := fun (v : World) => refRange_any (byt s q) (byt s q) l1 l1 v
          have HF : Hid (elm s q = .ok (rg (byt s q) (byt s q + 1), q + 1)) := by show _ = _; unfold elm; rw [if_neg h63, if_neg h91, if_neg h92, if_neg (by rw [hsg]; decide)]
          rw [hsg] at CS
          clear h92 h63 h91 hsg
          generalize byt s q = y at *
          go_enter Tryz.func80, Tryz.ntmps80
          go_wp2_with (first | rw [← E1.out] | rw [← E2.out])
          refine Calls.mono (CS.out _) ?_; rintro e w3 ⟨rfl, b3⟩
          have RX : Hid (Gb w w3 w.heap.size) := R2.out.grow b3
          have KX : Hid (Gb w w3 gb) := K2.out.grow b3
          have QX : Hid _ := Q2.out.stay b3
          clear k0 k1 k2 k3 k4 k5 k6 k7 k8 r0 r1 r2 r3 r4 r5 r6 r7 r8 fr0 fr1 fr2 fr3 fr4 fr5 fr6 fr7 fr8 b3
          obtain ⟨k0, k1, k2, k3, k4, k5, k6, k7, k8⟩ := QX.out
          obtain ⟨x0, x1, x2, x3, x4, x5, x6, x7, x8, r0, r1, r2, r3, r4, r5, r6, r7, r8⟩ := RX.out.c
          have fr0 := RX.out.f 0
          have fr1 := RX.out.f 1
          have fr2 := RX.out.f 2
          have fr3 := RX.out.f 3
          have fr4 := RX.out.f 4
          have fr5 := RX.out.f 5
          have fr6 := RX.out.f 6
          have fr7 := RX.out.f 7
          have fr8 := RX.out.f 8
          try rw [HG1.out]
          go_wp2_with fail
          refine Calls.mono (CR.out w3) ?_; rintro e w6 ⟨rfl, b6⟩
          have R6 := RX.out.grow b6
          have K6 := KX.out.grow b6
          have Q6 := QX.out.stay b6
          obtain ⟨w7, e7⟩ : ∃ w7, w7 = set4c w6 gb (.int .u64 ((wd (rg y (y + 1)) 0 : Nat) : Int)) (.int .u64 ((wd (rg y (y + 1)) 1 : Nat) : Int)) (.int .u64 ((wd (rg y (y + 1)) 2 : Nat) : Int)) (.int .u64 ((wd (rg y (y + 1)) 3 : Nat) : Int)) := ⟨_, rfl⟩
          have hw7 := set4c_wrote w6 gb (.int .u64 ((wd (rg y (y + 1)) 0 : Nat) : Int)) (.int .u64 ((wd (rg y (y + 1)) 1 : Nat) : Int)) (.int .u64 ((wd (rg y (y + 1)) 2 : Nat) : Int)) (.int .u64 ((wd (rg y (y + 1)) 3 : Nat) : Int))
          have q7 := Q6.words (.int .u64 ((wd (rg y (y + 1)) 0 : Nat) : Int)) (.int .u64 ((wd (rg y (y + 1)) 1 : Nat) : Int)) (.int .u64 ((wd (rg y (y + 1)) 2 : Nat) : Int)) (.int .u64 ((wd (rg y (y + 1)) 3 : Nat) : Int))
          rw [← e7] at hw7 q7
          have B7 : Below w.heap.size w w7 := R6.bel.trans (hw7.below (fun b o e => by have := K6.low; omega))
          have R7 : Hid (Gb w w7 w.heap.size) := R6.wrote hw7 (fun t e => hne e) B7
          unfold set4c at e7
          have E7 : Hid _ := e7
          clear k0 k1 k2 k3 k4 k5 k6 k7 k8 fr0 fr1 fr2 fr3 fr4 fr5 fr6 fr7 fr8 r0 r1 r2 r3 r4 r5 r6 r7 r8 e7 hw7
          obtain ⟨k0, k1, k2, k3, k4, k5, k6, k7, k8⟩ := Q6
          obtain ⟨m0, m1, m2, m3, m4, m5, m6, m7, m8⟩ := q7
          have ff0 := K6.f 0
          have ff1 := K6.f 1
          have ff2 := K6.f 2
          have ff3 := K6.f 3
          have ff4 := K6.f 4
          have ff5 := K6.f 5
          have ff6 := K6.f 6
          have ff7 := K6.f 7
          have ff8 := K6.f 8
          have fr0 := R7.out.f 0
          have fr1 := R7.out.f 1
          have fr2 := R7.out.f 2
          have fr3 := R7.out.f 3
          have fr4 := R7.out.f 4
          have fr5 := R7.out.f 5
          have fr6 := R7.out.f 6
          have fr7 := R7.out.f 7
          have fr8 := R7.out.f 8
          obtain ⟨x0, x1, x2, x3, x4, x5, x6, x7, x8, r0, r1, r2, r3, r4, r5, r6, r7, r8⟩ := R7.out.c
          go_wp2_with (first | rw [← E7.out])
          refine bodyPost_ret (results_got rfl _ _ w.heap.size rfl (R7.out.put _ _ _ _ _ _ _ _ _).1) rfl ?_
          exact ⟨⟨_, rg y (y + 1), by rw [HF.out]; rfl, fun g n e => by rw [HF.out] at e; simp only [Except.ok.injEq, Prod.mk.injEq] at e; exact e.1⟩, (R7.out.put _ _ _ _ _ _ _ _ _).2.bel⟩

end Cls
end Go.Proofs.YtbnnobeahliffaaGreatDoor
