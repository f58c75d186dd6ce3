/- Contracts of token's readClass and readElement. (Written by mktk3.py.) -/
import Derived.Test.YtbnnobeahliffaaGreatDoorTkRd2
set_option linter.unusedVariables false
namespace Go.Proofs.YtbnnobeahliffaaGreatDoor
open Go.RowKit
namespace Cls

def cnot (s : ByteArray) (op : Nat) : Bool := decide (op + 1 < s.size ∧ byt s (op + 1) = 94)

def cst (s : ByteArray) (op : Nat) : Nat := if op + 1 < s.size ∧ byt s (op + 1) = 94 then op + 2 else op + 1

/-- No items just if there are no bytes. -/
def Itn (out : Nat → Bool) (items : Nat) : Prop := (items = 0 ∧ ∀ x, x < 256 → out x = false) ∨ (items ≠ 0 ∧ ∃ x, x < 256 ∧ out x = true)

theorem Itn.more {out f : Nat → Bool} {items : Nat} (h : Itn out items) (hf : ∃ x, x < 256 ∧ f x = true) : Itn (fun x => out x || f x) (items + 1) := by
  obtain ⟨x, hx, hfx⟩ := hf
  exact .inr ⟨by omega, x, hx, by simp [hfx]⟩

theorem Itn.zero {out : Nat → Bool} {items : Nat} (h : Itn out items) : sm out (fun _ => false) = decide (items = 0) := by
  rcases h with ⟨h0, h⟩ | ⟨h0, x, hx, ho⟩
  · rw [decide_eq_true h0]; exact (sm_iff _ _).2 h
  · rw [decide_eq_false h0]
    cases e : sm out (fun _ => false) with
    | false => rfl
    | true => have := (sm_iff _ _).1 e x hx; rw [ho] at this; cases this

theorem sm_cb (f : Nat → Bool) : sm f (fun _ => false) = decide (cb f 0 256 = 0) := by
  by_cases h : cb f 0 256 = 0
  · rw [decide_eq_true h]
    rw [cb_none] at h
    exact (sm_iff _ _).2 h
  · rw [decide_eq_false h]
    cases e : sm f (fun _ => false) with
    | false => rfl
    | true => exact absurd ((cb_none f 256).2 ((sm_iff _ _).1 e)) h

theorem clr_ok {s : ByteArray} {op n items : Nat} {out : Nat → Bool} (h : cli s (s.size + 1) (cst s op) (fun _ => false) 0 = .ok ((out, items), n)) (hi : Itn out items) :
    clr s op = if clk out (cnot s op) = true then .ok ((if cnot s op then fun x => !out x else out), n + 1) else .error (op, 132) := by
  unfold clr
  unfold cst at h
  rw [h]
  simp only
  unfold clk
  rw [hi.zero, sm_cb]
  by_cases hc : op + 1 < s.size ∧ byt s (op + 1) = 94
  · rw [show cnot s op = true from decide_eq_true hc]
    simp only [hc, and_self, if_true]
    by_cases h0 : items = 0
    · simp [h0]
    · by_cases h1 : cb (fun x => !out x) 0 256 = 0
      · simp [h1]
      · simp [h0, h1]
  · rw [show cnot s op = false from decide_eq_false hc]
    simp only [if_neg hc]
    by_cases h0 : items = 0
    · simp [h0]
    · by_cases h1 : cb out 0 256 = 0
      · simp [h1]
      · simp [h0, h1]

theorem clr_err {s : ByteArray} {op p c : Nat} (h : cli s (s.size + 1) (cst s op) (fun _ => false) 0 = .error (p, c)) : clr s op = .error (p, c) := by
  unfold clr
  unfold cst at h
  rw [h]

theorem esp_code0 {s : ByteArray} {q p c : Nat} (h : itm s q = .error (p, c)) : c ≠ 0 := by
  intro e; subst e
  unfold itm at h
  split at h
  · simp at h
  split at h
  · have := esp_code h; omega
  split at h
  · simp at h
  · cases h

theorem rit_code0 {s : ByteArray} {q p c : Nat} (h : rit s q = .error (p, c)) : c ≠ 0 := by
  unfold rit at h
  split at h
  · rename_i e1
    simp only [Except.error.injEq] at h
    subst h
    exact esp_code0 e1
  · split at h
    · split at h
      · rename_i e1
        simp only [Except.error.injEq] at h
        subst h
        exact esp_code0 e1
      · split at h
        · simp only [Except.error.injEq, Prod.mk.injEq] at h; omega
        · cases h
    · cases h

/-- Where the loop of a class stands. -/
structure Cls1 (w wr : World) (g : Nat) (s : ByteArray) (op q fuel : Nat) (out : Nat → Bool) (items : Nat) : Prop where
  r : Kb w wr w.heap.size
  b : Kb w wr g
  c : Kc wr g out
  lo : op < q
  hi : q ≤ s.size
  fu : s.size + 1 ≤ fuel + q
  it : Itn out items
  eq : cli s (s.size + 1) (cst s op) (fun _ => false) 0 = cli s fuel q out items

def intAt' : Value → Int | .int _ q => q | _ => 0

set_option maxRecDepth 100000 in
set_option maxHeartbeats 4000000 in
theorem class_any (s : ByteArray) (op : Nat) (hs : s.size ≤ 1000000) (hop : op < s.size) (w : World) :
    Calls Tryz.prog 92 #[.string s, .int .i64 (op : Int)] w fun e w' => e = .returned (rdk (clr s op)) ∧ Below w.heap.size w w' := by
  obtain ⟨w1, e1⟩ : ∃ w1, w1 = w.alloc (.cells #[.int .u64 0, .int .u64 0, .int .u64 0, .int .u64 0] 67) := ⟨_, rfl⟩
  obtain ⟨w2, e2⟩ : ∃ w2, w2 = w1.alloc (.cells #[.int .u64 0, .int .u64 0, .int .u64 0, .int .u64 0] 67) := ⟨_, rfl⟩
  have s1 : w1.heap.size = w.heap.size + 1 := by rw [e1, al_size]
  have b1 : Below w.heap.size w w1 := by rw [e1]; exact al_below _ _
  have b2 : Below w1.heap.size w1 w2 := by rw [e2]; exact al_below _ _
  have k1 : Kb w w1 w.heap.size := by rw [e1]; exact kb_new _ _ _ _ _ _
  have k2 : Kb w w2 w1.heap.size := by rw [e2]; exact kb_more b1 _ _ _ _ _
  have q2 : K4 w2 w1.heap.size (.int .u64 0) (.int .u64 0) (.int .u64 0) (.int .u64 0) := by rw [e2]; exact k4_new _ _ _ _ _ _
  have q3 : Kc w2 w1.heap.size (fun _ => false) := by unfold Kc; simp only [wd_none]; exact q2
  have HS : Hid (∀ q, op < q → q ≤ s.size → q = cst s op → Cls1 w w2 w1.heap.size s op q (s.size + 1) (fun _ => false) 0) := fun q h1 h2 h3 =>
    ⟨k1.grow b2, k2, q3, h1, h2, by omega, .inl ⟨rfl, fun _ _ => rfl⟩, by rw [h3]⟩
  have E1 : Hid _ := e1
  have E2 : Hid _ := e2
  have H1 : Hid (w.heap.size + 1 = w1.heap.size) := s1.symm
  have hne : w.heap.size ≠ w1.heap.size := by omega
  obtain ⟨o1, ho1⟩ : ∃ o1 : Nat, o1 = op + 1 := ⟨_, rfl⟩
  obtain ⟨o2, ho2⟩ : ∃ o2 : Nat, o2 = op + 2 := ⟨_, rfl⟩
  have hw1 : IntKind.i64.wrap ((op : Int) + 1) = (o1 : Int) := by rw [IntKind.wrap_i64]; omega
  have hw2 : IntKind.i64.wrap ((o1 : Int) + 1) = (o2 : Int) := by rw [IntKind.wrap_i64]; omega
  clear e1 e2 s1 b1 b2 k1 k2 q2 q3
  generalize w1.heap.size = g at *
  go_enter Tryz.func92, Tryz.ntmps92
  go_wp2_with fail
  refine wp_scope_once 0 (fun a' wr => ∃ (q fuel items : Nat) (out : Nat → Bool) (u10 u11 u12 u13 u14 u15 u16 u17 u18 u19 u20 u21 u22 u23 u24 u25 u26 u27 u28 u29 u30 u31 u32 u33 u34 u35 u36 u37 u38 u39 u40 u41 u42 u43 u44 u45 u46 u47 u48 u49 u50 u51 u52 u53 u54 u55 u56 u57 u58 u59 u60 u61 u62 u63 u64 u65 u66 u67 u68 : Value), a' = { tmps := #[.string s, .int .i64 (op : Int), undef, undef, .pointer (some ⟨w.heap.size, 0, none⟩), .int .i64 0, .int .i64 0, .pointer (some ⟨g, 0, none⟩), .int .i64 (q : Int), .bool (cnot s op), u10, u11, u12, u13, u14, u15, u16, u17, u18, u19, u20, u21, u22, u23, u24, u25, u26, u27, u28, u29, u30, u31, u32, u33, u34, u35, u36, u37, u38, u39, u40, u41, u42, u43, u44, u45, u46, u47, u48, u49, u50, u51, u52, u53, u54, u55, u56, u57, u58, u59, u60, u61, u62, u63, u64, u65, u66, u67, u68], defers := [] } ∧ Cls1 w wr g s op q fuel out items) (fun a' _ => s.size - (intAt' (a'.tmps.getD 8 undef)).toNat) rfl ?_ ?_
  · rintro a' wr ⟨q, fuel, items, out, u10, u11, u12, u13, u14, u15, u16, u17, u18, u19, u20, u21, u22, u23, u24, u25, u26, u27, u28, u29, u30, u31, u32, u33, u34, u35, u36, u37, u38, u39, u40, u41, u42, u43, u44, u45, u46, u47, u48, u49, u50, u51, u52, u53, u54, u55, u56, u57, u58, u59, u60, u61, u62, u63, u64, u65, u66, u67, u68, rfl, hC⟩
    have HC : Hid (Cls1 w wr g s op q fuel out items) := hC
    obtain ⟨a0, a1, a2, a3⟩ := hC.c
    have fr0 := hC.r.f 0
    have fr1 := hC.r.f 1
    have fr2 := hC.r.f 2
    have fr3 := hC.r.f 3
    have fb0 := hC.b.f 0
    have fb1 := hC.b.f 1
    have fb2 := hC.b.f 2
    have fb3 := hC.b.f 3
    obtain ⟨x0, x1, x2, x3, r0, r1, r2, r3⟩ := hC.r.c
    have hlo := hC.lo
    have hhi := hC.hi
    obtain ⟨f', rfl⟩ : ∃ f', fuel = f' + 1 := ⟨fuel - 1, by have := hC.fu; omega⟩
    have hfu := hC.fu
    have heq := hC.eq
    rw [cli_rit s f' q out items] at heq
    have hwq : IntKind.i64.wrap ((q : Int) + 1) = (q : Int) + 1 := by rw [IntKind.wrap_i64]; omega
    by_cases h93 : q < s.size ∧ byt s q = 93
    · rw [if_pos h93] at heq
      have hi : ∀ w, (Instr.index 9 (.string s) (.int .i64 (q : Int))).run Tryz.prog w = .ok (.int .u8 93) w := fun w => by rw [idx_str s q h93.1 w, h93.2]; rfl
      have hqI : (q : Int) < (s.size : Int) := by omega
      have hK := clr_ok heq hC.it
      have CC : Hid _ := fun (v : World) => closed_any out (cnot s op) v
      clear heq hC
      cases hk : clk out (cnot s op) with
      | true =>
        rw [hk, if_pos rfl] at hK
        rw [hk] at CC
        have HF : Hid _ := hK
        clear hK hk
        generalize cnot s op = o at *
        go_wp2_with fail
        refine Calls.mono (CC.out wr) ?_; rintro e w3 ⟨⟨gg, rfl, hgg⟩, b3⟩
        obtain rfl := hgg (by trivial)
        obtain ⟨w4, e4⟩ : ∃ w4, w4 = w3.alloc (.cells #[.int .u64 ((wd (if o then fun x => !out x else out) 0 : Nat) : Int), .int .u64 ((wd (if o then fun x => !out x else out) 1 : Nat) : Int), .int .u64 ((wd (if o then fun x => !out x else out) 2 : Nat) : Int), .int .u64 ((wd (if o then fun x => !out x else out) 3 : Nat) : Int)] 67) := ⟨_, rfl⟩
        have R3 : Kb w w3 w.heap.size := HC.out.r.grow b3
        have b4 : Below w3.heap.size w3 w4 := by rw [e4]; exact al_below _ _
        have q4 : Kc w4 w3.heap.size (if o then fun x => !out x else out) := by rw [e4]; exact k4_new _ _ _ _ _ _
        have R4 : Hid (Kb w w4 w.heap.size) := R3.grow b4
        have E4 : Hid _ := e4
        clear a0 a1 a2 a3 fr0 fr1 fr2 fr3 fb0 fb1 fb2 fb3 r0 r1 r2 r3 R3 b4 e4 b3 hgg HC
        obtain ⟨a0, a1, a2, a3⟩ := q4
        have fr0 := R4.out.f 0
        have fr1 := R4.out.f 1
        have fr2 := R4.out.f 2
        have fr3 := R4.out.f 3
        obtain ⟨x0, x1, x2, x3, r0, r1, r2, r3⟩ := R4.out.c
        generalize (if o then fun x => !out x else out) = res at *
        go_wp2_with (first | rw [← E4.out])
        try simp only [Exit.jump]
        refine bodyPost_ret (results_cls3 rfl _ _ w.heap.size rfl (R4.out.put _ _ _ _).1) rfl ?_
        exact ⟨by rw [HF.out]; rfl, (R4.out.put _ _ _ _).2.bel⟩
      | false =>
        rw [hk, if_neg (by decide)] at hK
        rw [hk] at CC
        have HF : Hid _ := hK
        clear hK hk
        generalize cnot s op = o at *
        go_wp2_with fail
        refine Calls.mono (CC.out wr) ?_; rintro e w3 ⟨⟨gg, rfl, hgg⟩, b3⟩
        obtain ⟨w4, e4⟩ : ∃ w4, w4 = w3.alloc (.cells #[.int .u64 ((wd (gg) 0 : Nat) : Int), .int .u64 ((wd (gg) 1 : Nat) : Int), .int .u64 ((wd (gg) 2 : Nat) : Int), .int .u64 ((wd (gg) 3 : Nat) : Int)] 67) := ⟨_, rfl⟩
        have R3 : Kb w w3 w.heap.size := HC.out.r.grow b3
        have b4 : Below w3.heap.size w3 w4 := by rw [e4]; exact al_below _ _
        have R4 : Hid (Kb w w4 w.heap.size) := R3.grow b4
        have E4 : Hid _ := e4
        clear a0 a1 a2 a3 fr0 fr1 fr2 fr3 fb0 fb1 fb2 fb3 r0 r1 r2 r3 R3 b4 e4 b3 hgg HC
        have fr0 := R4.out.f 0
        have fr1 := R4.out.f 1
        have fr2 := R4.out.f 2
        have fr3 := R4.out.f 3
        obtain ⟨x0, x1, x2, x3, r0, r1, r2, r3⟩ := R4.out.c
        go_wp2_with (first | rw [← E4.out])
        try simp only [Exit.jump]
        refine bodyPost_ret (results_cls3 rfl _ _ w.heap.size rfl (R4.out.put _ _ _ _).1) rfl ?_
        exact ⟨by rw [HF.out]; rfl, (R4.out.put _ _ _ _).2.bel⟩
    · rw [if_neg h93] at heq
      have CI : Hid _ := fun (v : World) => item_any s q hs hhi v
      cases hr : rit s q with
      | error r =>
        obtain ⟨p, c⟩ := r
        have hc : ¬ (c : Int) = 0 := by have := rit_code0 hr; omega
        rw [hr] at CI heq
        have HF : Hid _ := clr_err heq
        unfold rdk at CI
        clear heq hC hr
        by_cases hq : q < s.size
        · have hi : ∀ w, (Instr.index 9 (.string s) (.int .i64 (q : Int))).run Tryz.prog w = .ok (.int .u8 ((byt s q : Nat) : Int)) w := fun w => idx_str s q hq w
          have hqI : (q : Int) < (s.size : Int) := by omega
          have h93I : ¬ ((byt s q : Nat) : Int) = 93 := by omega
          clear h93
          generalize byt s q = y at *
          go_wp2_with fail
          refine Calls.mono (CI.out wr) ?_; rintro e w3 ⟨rfl, b3⟩
          obtain ⟨w4, e4⟩ : ∃ w4, w4 = w3.alloc (.cells #[.int .u64 0, .int .u64 0, .int .u64 0, .int .u64 0] 67) := ⟨_, rfl⟩
          have R3 : Kb w w3 w.heap.size := HC.out.r.grow b3
          have b4 : Below w3.heap.size w3 w4 := by rw [e4]; exact al_below _ _
          have k4 : Kb w w4 w3.heap.size := by rw [e4]; exact kb_more R3.bel _ _ _ _ _
          have q4 : K4 w4 w3.heap.size (.int .u64 0) (.int .u64 0) (.int .u64 0) (.int .u64 0) := by rw [e4]; exact k4_new _ _ _ _ _ _
          have hn3 : w.heap.size ≠ w3.heap.size := by have := R3.hi; omega
          obtain ⟨w5, e5⟩ : ∃ w5, w5 = set4v w4 w3.heap.size (.int .u64 0) (.int .u64 0) (.int .u64 0) (.int .u64 0) := ⟨_, rfl⟩
          have R4 : Hid (Kb w w5 w.heap.size) := by show Kb _ _ _; rw [e5]; exact (R3.grow b4).other hn3 k4.low _ _ _ _
          have E4 : Hid _ := e4
          unfold set4v at e5
          have E5 : Hid _ := e5
          obtain ⟨z0, z1, z2, z3⟩ := q4
          have fz0 := k4.f 0
          have fz1 := k4.f 1
          have fz2 := k4.f 2
          have fz3 := k4.f 3
          clear a0 a1 a2 a3 fr0 fr1 fr2 fr3 fb0 fb1 fb2 fb3 r0 r1 r2 r3 R3 b4 e4 b3 HC e5 k4
          have fr0 := R4.out.f 0
          have fr1 := R4.out.f 1
          have fr2 := R4.out.f 2
          have fr3 := R4.out.f 3
          obtain ⟨x0, x1, x2, x3, r0, r1, r2, r3⟩ := R4.out.c
          go_wp2_with (first | rw [← E4.out] | rw [← E5.out])
          try simp only [Exit.jump]
          refine bodyPost_ret (results_cls3 rfl _ _ w.heap.size rfl (R4.out.put _ _ _ _).1) rfl ?_
          exact ⟨by rw [HF.out]; rfl, (R4.out.put _ _ _ _).2.bel⟩
        · have hqI : ¬ (q : Int) < (s.size : Int) := by omega
          clear h93
          go_wp2_with fail
          refine Calls.mono (CI.out wr) ?_; rintro e w3 ⟨rfl, b3⟩
          obtain ⟨w4, e4⟩ : ∃ w4, w4 = w3.alloc (.cells #[.int .u64 0, .int .u64 0, .int .u64 0, .int .u64 0] 67) := ⟨_, rfl⟩
          have R3 : Kb w w3 w.heap.size := HC.out.r.grow b3
          have b4 : Below w3.heap.size w3 w4 := by rw [e4]; exact al_below _ _
          have k4 : Kb w w4 w3.heap.size := by rw [e4]; exact kb_more R3.bel _ _ _ _ _
          have q4 : K4 w4 w3.heap.size (.int .u64 0) (.int .u64 0) (.int .u64 0) (.int .u64 0) := by rw [e4]; exact k4_new _ _ _ _ _ _
          have hn3 : w.heap.size ≠ w3.heap.size := by have := R3.hi; omega
          obtain ⟨w5, e5⟩ : ∃ w5, w5 = set4v w4 w3.heap.size (.int .u64 0) (.int .u64 0) (.int .u64 0) (.int .u64 0) := ⟨_, rfl⟩
          have R4 : Hid (Kb w w5 w.heap.size) := by show Kb _ _ _; rw [e5]; exact (R3.grow b4).other hn3 k4.low _ _ _ _
          have E4 : Hid _ := e4
          unfold set4v at e5
          have E5 : Hid _ := e5
          obtain ⟨z0, z1, z2, z3⟩ := q4
          have fz0 := k4.f 0
          have fz1 := k4.f 1
          have fz2 := k4.f 2
          have fz3 := k4.f 3
          clear a0 a1 a2 a3 fr0 fr1 fr2 fr3 fb0 fb1 fb2 fb3 r0 r1 r2 r3 R3 b4 e4 b3 HC e5 k4
          have fr0 := R4.out.f 0
          have fr1 := R4.out.f 1
          have fr2 := R4.out.f 2
          have fr3 := R4.out.f 3
          obtain ⟨x0, x1, x2, x3, r0, r1, r2, r3⟩ := R4.out.c
          go_wp2_with (first | rw [← E4.out] | rw [← E5.out])
          try simp only [Exit.jump]
          refine bodyPost_ret (results_cls3 rfl _ _ w.heap.size rfl (R4.out.put _ _ _ _).1) rfl ?_
          exact ⟨by rw [HF.out]; rfl, (R4.out.put _ _ _ _).2.bel⟩
      | ok r =>
        obtain ⟨f, n⟩ := r
        obtain ⟨n1, n2, n3⟩ := rit_next hr
        rw [hr] at CI heq
        have hq : q < s.size := by omega
        have HI : Hid (Itn (fun x => out x || f x) (items + 1)) := hC.it.more n3
        have HQ : Hid _ := heq
        have CO : Hid _ := fun (v : World) => or_any out f v
        unfold rdk at CI
        have hi : ∀ w, (Instr.index 9 (.string s) (.int .i64 (q : Int))).run Tryz.prog w = .ok (.int .u8 ((byt s q : Nat) : Int)) w := fun w => idx_str s q hq w
        have hqI : (q : Int) < (s.size : Int) := by omega
        have h93I : ¬ ((byt s q : Nat) : Int) = 93 := by omega
        clear h93 heq hC hr n3
        generalize byt s q = y at *
        go_wp2_with fail
        refine Calls.mono (CI.out wr) ?_; rintro e w3 ⟨rfl, b3⟩
        obtain ⟨w4, e4⟩ : ∃ w4, w4 = w3.alloc (.cells #[.int .u64 ((wd (f) 0 : Nat) : Int), .int .u64 ((wd (f) 1 : Nat) : Int), .int .u64 ((wd (f) 2 : Nat) : Int), .int .u64 ((wd (f) 3 : Nat) : Int)] 67) := ⟨_, rfl⟩
        have b4 : Below w3.heap.size w3 w4 := by rw [e4]; exact al_below _ _
        have R4 : Hid (Kb w w4 w.heap.size) := (HC.out.r.grow b3).grow b4
        have B4 : Hid (Kb w w4 g) := (HC.out.b.grow b3).grow b4
        have Q4 : Hid (Kc w4 g out) := (K4.keep HC.out.c b3).keep b4
        have q4 : Kc w4 w3.heap.size f := by rw [e4]; exact k4_new _ _ _ _ _ _
        have E4 : Hid _ := e4
        clear a0 a1 a2 a3 fr0 fr1 fr2 fr3 fb0 fb1 fb2 fb3 r0 r1 r2 r3 b4 e4 b3 HC
        obtain ⟨a0, a1, a2, a3⟩ := Q4.out
        obtain ⟨c0, c1, c2, c3⟩ := q4
        go_wp2_with (first | rw [← E4.out])
        refine Calls.mono (CO.out w4) ?_; rintro e w5 ⟨rfl, b5⟩
        have R5 : Hid (Kb w w5 w.heap.size) := R4.out.grow b5
        have B5 : Hid (Kb w w5 g) := B4.out.grow b5
        clear a0 a1 a2 a3 c0 c1 c2 c3 R4 B4 Q4 b5 E4
        obtain ⟨x0, x1, x2, x3, r0, r1, r2, r3⟩ := B5.out.c
        have fb0 := B5.out.f 0
        have fb1 := B5.out.f 1
        have fb2 := B5.out.f 2
        have fb3 := B5.out.f 3
        go_wp2_with fail
        go_step3
        have hp := B5.out.put (.int .u64 ((wd (fun x => out x || f x) 0 : Nat) : Int)) (.int .u64 ((wd (fun x => out x || f x) 1 : Nat) : Int)) (.int .u64 ((wd (fun x => out x || f x) 2 : Nat) : Int)) (.int .u64 ((wd (fun x => out x || f x) 3 : Nat) : Int))
        have ho := R5.out.other (g := g) hne B5.out.low (.int .u64 ((wd (fun x => out x || f x) 0 : Nat) : Int)) (.int .u64 ((wd (fun x => out x || f x) 1 : Nat) : Int)) (.int .u64 ((wd (fun x => out x || f x) 2 : Nat) : Int)) (.int .u64 ((wd (fun x => out x || f x) 3 : Nat) : Int))
        refine ⟨rfl, ⟨n, f', items + 1, fun x => out x || f x, _, _, _, _, _, _, _, _, _, _, _, _, _, _, _, _, _, _, _, _, _, _, _, _, _, _, _, _, _, _, _, _, _, _, _, _, _, _, _, _, _, _, _, _, _, _, _, _, _, _, _, _, _, _, _, _, _, _, _, rfl, ⟨ho, hp.2, hp.1, by omega, n2, by omega, HI.out, HQ.out⟩⟩, ?_⟩
        show s.size - ((n : Int)).toNat < s.size - ((q : Int)).toNat
        omega
  · intro K
    by_cases h1 : op + 1 < s.size
    · have h1I : (o1 : Int) < (s.size : Int) := by omega
      have hi : ∀ w, (Instr.index 9 (.string s) (.int .i64 (o1 : Int))).run Tryz.prog w = .ok (.int .u8 ((byt s (op + 1) : Nat) : Int)) w := fun w => by
        rw [idx_str s o1 (by omega) w, ho1]
      by_cases h2 : byt s (op + 1) = 94
      · have ec : cst s op = o2 := by unfold cst; rw [if_pos ⟨h1, h2⟩, ho2]
        have HC := HS.out o2 (by omega) (by omega) ec.symm
        have ek : cnot s op = true := decide_eq_true ⟨h1, h2⟩
        have HK : Hid _ := K
        rw [h2] at hi
        clear K ho1 ho2
        go_wp2_with fail
        rw [← E1.out, ← E2.out, H1.out]
        go_step3
        go_step
        go_step
        refine HK.out _ _ ?_
        rw [← ek]
        exact ⟨o2, s.size + 1, 0, fun _ => false, _, _, _, _, _, _, _, _, _, _, _, _, _, _, _, _, _, _, _, _, _, _, _, _, _, _, _, _, _, _, _, _, _, _, _, _, _, _, _, _, _, _, _, _, _, _, _, _, _, _, _, _, _, _, _, _, _, _, _, rfl, HC⟩
      · have ec : cst s op = o1 := by unfold cst; rw [if_neg (fun h => h2 h.2), ho1]
        have HC := HS.out o1 (by omega) (by omega) ec.symm
        have ek : cnot s op = false := decide_eq_false (fun h => h2 h.2)
        have HK : Hid _ := K
        have h2I : ¬ ((byt s (op + 1) : Nat) : Int) = 94 := by omega
        clear K ho1 ho2
        generalize byt s (op + 1) = y at hi h2 h2I
        go_wp2_with fail
        rw [← E1.out, ← E2.out, H1.out]
        go_step3
        go_step
        go_step
        refine HK.out _ _ ?_
        rw [← ek]
        exact ⟨o1, s.size + 1, 0, fun _ => false, _, _, _, _, _, _, _, _, _, _, _, _, _, _, _, _, _, _, _, _, _, _, _, _, _, _, _, _, _, _, _, _, _, _, _, _, _, _, _, _, _, _, _, _, _, _, _, _, _, _, _, _, _, _, _, _, _, _, _, rfl, HC⟩
    · have h1I : ¬ (o1 : Int) < (s.size : Int) := by omega
      have ec : cst s op = o1 := by unfold cst; rw [if_neg (fun h => h1 h.1), ho1]
      have HC := HS.out o1 (by omega) (by omega) ec.symm
      have ek : cnot s op = false := decide_eq_false (fun h => h1 h.1)
      have HK : Hid _ := K
      clear K ho1 ho2
      go_wp2_with fail
      rw [← E1.out, ← E2.out, H1.out]
      go_step3
      go_step
      go_step
      refine HK.out _ _ ?_
      rw [← ek]
      exact ⟨o1, s.size + 1, 0, fun _ => false, _, _, _, _, _, _, _, _, _, _, _, _, _, _, _, _, _, _, _, _, _, _, _, _, _, _, _, _, _, _, _, _, _, _, _, _, _, _, _, _, _, _, _, _, _, _, _, _, _, _, _, _, _, _, _, _, _, _, _, rfl, HC⟩

end Cls
end Go.Proofs.YtbnnobeahliffaaGreatDoor
