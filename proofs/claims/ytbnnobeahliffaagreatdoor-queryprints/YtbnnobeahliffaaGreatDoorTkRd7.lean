/- Contract of token's readToken. (Written by mktk6.py.) -/
import Derived.Test.YtbnnobeahliffaaGreatDoorTkRd5
import Derived.Test.YtbnnobeahliffaaGreatDoorTkRd6
import Derived.Test.YtbnnobeahliffaaGreatDoorTkWro
set_option linter.unusedVariables false
namespace Go.Proofs.YtbnnobeahliffaaGreatDoor
open Go.RowKit
namespace Cls

/-- Results: a token in a box, and two numbers. -/
theorem results_tok3 {fn : Func} {p u t : Tmp} (h : fn.results = #[.cell p 76, .tmp u, .tmp t]) (tmps : Array Value) (v : World) (b : Nat) {v0 v1 v2 v3 : Value} (hp : tmps.getD p undef = .pointer (some ⟨b, 0, none⟩)) (hG : K4 v b v0 v1 v2 v3) :
    (results fn tmps).run Tryz.prog v = .ok (.tuple #[.agg #[v0, v1, v2, v3], tmps.getD u undef, tmps.getD t undef]) v := by
  have hp' : tmps[p]?.getD undef = .pointer (some ⟨b, 0, none⟩) := by simpa using hp
  obtain ⟨c0, c1, c2, c3⟩ := hG
  simp [results, h, hp', asAddr, go_sem, c0, c1, c2, c3]

/-- A token that is told: its value, where its classes lie (new ones). -/
def Told1 (B : Nat) (w' : World) (r : Rd Tk) (e : Ending) : Prop :=
  ∃ x : Tv, e = .returned (.tuple #[x.val, .int .i64 (rpl r : Nat), .int .i64 (rcd r : Nat)]) ∧ (∀ t n, r = .ok (t, n) → x.i = t.i) ∧ x.ok w' ∧ ∀ b o, x.ao = some ⟨b, o, none⟩ → B ≤ b

theorem lf_none (w : World) (P : Nat → Nat → Bool) : Lf w none 0 P := ⟨by omega, fun h => by omega⟩

theorem told_plain {B : Nat} {w' : World} {r : Rd Tk} {k a n p c : Int} (hp : p = (rpl r : Nat)) (hc : c = (rcd r : Nat)) (h : ∀ t m, r = .ok (t, m) → (⟨k, a, n, []⟩ : Ti) = t.i) : Told1 B w' r (.returned (.tuple #[.agg #[.int .i64 k, .int .i64 a, .int .i64 n, .slice none 0 0], .int .i64 p, .int .i64 c])) :=
  ⟨⟨⟨k, a, n, []⟩, none, 0⟩, by rw [hp, hc]; rfl, h, lf_none _ _, fun _ _ e => by cases e⟩

theorem told_row {B : Nat} {w' : World} {r : Rd Tk} {k a p c : Int} {v : Value} {L : List (Nat → Bool)} (hL : L.length ≤ 4398046511104) (ho : OwnC w' B v L) (hp : p = (rpl r : Nat)) (hc : c = (rcd r : Nat)) (h : ∀ t m, r = .ok (t, m) → (⟨k, a, 0, L⟩ : Ti) = t.i) : Told1 B w' r (.returned (.tuple #[.agg #[.int .i64 k, .int .i64 a, .int .i64 0, v], .int .i64 p, .int .i64 c])) := by
  obtain ⟨ao, cap, rfl, hl⟩ := ownC_lf ho hL
  exact ⟨⟨⟨k, a, 0, L⟩, ao, cap⟩, by rw [hp, hc]; rfl, h, hl, ownC_new ho rfl⟩

theorem nmb_code0 {s : ByteArray} {q : Nat} : True := trivial

theorem ptl_len64 {s : ByteArray} {q : Nat} : (rls (ptl s (s.size + 1) q [])).length ≤ 64 := by
  cases h : ptl s (s.size + 1) q [] with
  | error e => show ([] : List (Nat → Bool)).length ≤ 64; simp
  | ok r =>
    obtain ⟨P, n⟩ := r
    exact (ptl_next _ _ _ _ _ h (by simp) (by simp)).2.2.2.2

set_option maxRecDepth 100000 in
set_option maxHeartbeats 4000000 in
theorem token_any (s : ByteArray) (q : Nat) (hs : s.size ≤ 1000000) (hq : q < s.size) (w : World) :
    Calls Tryz.prog 35 #[.string s, .int .i64 (q : Int)] w fun e w' => Told1 w.heap.size w' (tok1 s q) e ∧ Below w.heap.size w w' := by
  have l1 := byt_lt s q
  obtain ⟨k, hk⟩ : ∃ k, knd8 (byt s q) = k := ⟨_, rfl⟩
  obtain ⟨w1, e1⟩ : ∃ w1, w1 = w.alloc (.cells #[.int .i64 0, .int .i64 0, .int .i64 0, .slice none 0 0] 76) := ⟨_, rfl⟩
  obtain ⟨w2, e2⟩ : ∃ w2, w2 = w1.alloc (.cells #[.int .i64 (k : Int), .int .i64 (q : Int), .int .i64 0, .slice none 0 0] 76) := ⟨_, rfl⟩
  have s1 : w1.heap.size = w.heap.size + 1 := by rw [e1, al_size]
  have b1 : Below w.heap.size w w1 := by rw [e1]; exact al_below _ _
  have b2 : Below w1.heap.size w1 w2 := by rw [e2]; exact al_below _ _
  have k1 : Kb w w1 w.heap.size := by rw [e1]; exact kb_new _ _ _ _ _ _
  have k2 : Kb w w2 w1.heap.size := by rw [e2]; exact kb_more b1 _ _ _ _ _
  have q2 : K4 w2 w1.heap.size (.int .i64 (k : Int)) (.int .i64 (q : Int)) (.int .i64 0) (.slice none 0 0) := by rw [e2]; exact k4_new _ _ _ _ _ _
  have E1 : Hid _ := e1
  have E2 : Hid _ := e2
  have KR : Hid (Kb w w2 w.heap.size) := k1.grow b2
  have KT : Hid (Kb w w2 w1.heap.size) := k2
  have QT : Hid (K4 w2 w1.heap.size (.int .i64 (k : Int)) (.int .i64 (q : Int)) (.int .i64 0) (.slice none 0 0)) := q2
  have H1 : Hid (w.heap.size + 1 = w1.heap.size) := s1.symm
  have hne : w.heap.size ≠ w1.heap.size := by omega
  have hi : ∀ w, (Instr.index 9 (.string s) (.int .i64 (q : Int))).run Tryz.prog w = .ok (.int .u8 ((byt s q : Nat) : Int)) w := fun w => idx_str s q hq w
  have hw1 : IntKind.i64.wrap ((q : Int) + 1) = (q : Int) + 1 := by rw [IntKind.wrap_i64]; omega
  have CI : Hid _ := fun (v : World) => fpos_any knT (byt s q) v
  have hkn := fpos_kn l1
  rw [hk] at hkn
  unfold knT at CI hkn
  obtain ⟨f, hf⟩ : ∃ f, fpos ⟨#[40, 41, 38, 124, 33, 62, 126, 34]⟩ (byt s q) = f := ⟨_, rfl⟩
  rw [hf] at CI hkn
  have hk8 : k ≤ 8 := by
    rw [← hk]
    unfold knd8
    have := knd_le7 (byt s q)
    split <;> omega
  have hwf : IntKind.i64.wrap (f + 1) = (k : Int) := by rw [hkn, IntKind.wrap_i64]; omega
  have HT : Hid (byt s q = 34 ↔ k = 8) := by
    show _ ↔ _
    rw [← hk]
    unfold knd8
    by_cases h : byt s q = 34
    · rw [if_pos h]; simp [h]
    · rw [if_neg h]
      have := knd_le7 (byt s q)
      constructor <;> intro hh <;> omega
  have HD : Hid (byt s q ≠ 34 → knd (byt s q) = k) := fun h => by rw [← hk]; unfold knd8; rw [if_neg h]
  clear e1 e2 s1 b1 b2 k1 k2 q2 hf hk H1
  by_cases h0 : k = 0
  · have HF : Hid (tok1 s q = .error (q, 130)) := by
      have h34 : byt s q ≠ 34 := fun e => by have := HT.out.1 e; omega
      show _ = _
      unfold tok1
      rw [if_neg h34, HD.out h34, if_pos h0]
    have h0I : ((k : Int) == 0) = true := beq_iff_eq.2 (by omega)
    clear HT HD h0 hkn hk8
    generalize byt s q = y at *
    obtain ⟨a0, a1, a2, a3⟩ := QT.out
    obtain ⟨x0, x1, x2, x3, r0, r1, r2, r3⟩ := KR.out.c
    have fr0 := KR.out.f 0
    have fr1 := KR.out.f 1
    have fr2 := KR.out.f 2
    have fr3 := KR.out.f 3
    go_enter Tryz.func35, Tryz.ntmps35
    go_wp2_with (first | rw [← E1.out])
    refine Calls.mono (CI.out _) ?_; rintro e w3 ⟨rfl, hw3⟩; subst w3
    go_wp2_with (first | rw [← E2.out])
    refine bodyPost_ret (results_tok3 rfl _ _ w.heap.size rfl (KR.out.put _ _ _ _).1) rfl ?_
    exact ⟨told_plain (by rw [HF.out]; rfl) (by rw [HF.out]; rfl) (fun t m e => by rw [HF.out] at e; cases e), (KR.out.put _ _ _ _).2.bel⟩
  · have h0I : ((k : Int) == 0) = false := beq_eq_false_iff_ne.2 (by omega)
    by_cases h8 : k = 8
    · have h34 : byt s q = 34 := HT.out.2 h8
      have CE : Hid _ := fun (v : World) => elements_any s (q + 1) hs (by omega) v
      rw [show ((q + 1 : Nat) : Int) = (q : Int) + 1 by omega] at CE
      have hlen : (rls (ptl s (s.size + 1) (q + 1) [])).length ≤ 64 := ptl_len64
      have HF : Hid (rpl (tok1 s q) = rpl (ptl s (s.size + 1) (q + 1) []) ∧ rcd (tok1 s q) = rcd (ptl s (s.size + 1) (q + 1) []) ∧ ∀ t m, tok1 s q = .ok (t, m) → (⟨(k : Int), (q : Int), 0, rls (ptl s (s.size + 1) (q + 1) [])⟩ : Ti) = t.i) := by
        show _ ∧ _ ∧ _
        unfold tok1
        rw [if_pos h34]
        cases ptl s (s.size + 1) (q + 1) [] with
        | error e => exact ⟨rfl, rfl, fun t m e => by cases e⟩
        | ok r =>
          obtain ⟨P, n⟩ := r
          refine ⟨rfl, rfl, fun t m e => ?_⟩
          simp only [Except.ok.injEq, Prod.mk.injEq] at e
          rw [← e.1, h8]
          rfl
      have h8I : ((k : Int) == 8) = true := beq_iff_eq.2 (by omega)
      have h6I : ((k : Int) == 6) = false := beq_eq_false_iff_ne.2 (by omega)
      have h7I : ((k : Int) == 7) = false := beq_eq_false_iff_ne.2 (by omega)
      rw [h34] at hi CI
      clear HT HD h8 h0 hkn hk8
      generalize ptl s (s.size + 1) (q + 1) [] = r at *
      go_enter Tryz.func35, Tryz.ntmps35
      obtain ⟨a0, a1, a2, a3⟩ := QT.out
      go_wp2_with (first | rw [← E1.out])
      refine Calls.mono (CI.out _) ?_; rintro e w3 ⟨rfl, hw3⟩; subst w3
      go_wp2_with (first | rw [← E2.out])
      refine Calls.mono (CE.out w2) ?_; rintro e w3 ⟨⟨v, rfl, ho⟩, b3⟩
      obtain ⟨ao, cap, rfl, hlf⟩ := ownC_lf ho (by omega)
      clear hlf
      have HO : Hid (OwnC w3 w.heap.size (.slice ao (rls r).length cap) (rls r)) := by
        have hsz := KR.out.bel.size
        obtain ⟨hl, he | ⟨gx1, cap', cur, hv, hg', hbk, hc, hm, hss, ht⟩⟩ := ho
        · exact ⟨hl, .inl he⟩
        · exact ⟨hl, .inr ⟨gx1, cap', cur, hv, by omega, hbk, hc, hm, hss, ht⟩⟩
      have HN : Hid (∀ gx1, (Value.slice ao (rls r).length cap).ownBlock = some gx1 → w2.heap.size ≤ gx1) := fun gx1 hg' => by
        obtain ⟨_, ⟨e, _⟩ | ⟨gx2, cap2, cur, hv, hg'', _⟩⟩ := ho
        · rw [e] at hg'; simp [Value.ownBlock] at hg'
        · rw [hv] at hg'; simp [Value.ownBlock] at hg'; omega
      have R3 : Kb w w3 w.heap.size := KR.out.grow b3
      have T3 : Kb w w3 w1.heap.size := KT.out.grow b3
      have Q3 := K4.keep QT.out b3
      obtain ⟨w4, e4⟩ : ∃ w4, w4 = w3.setCell ⟨w1.heap.size, 3, none⟩ (.slice ao (rls r).length cap) := ⟨_, rfl⟩
      have hw4 : Wrote (fun b _ => b = w1.heap.size) w3 w4 := by rw [e4]; exact (Wrote.refl (fun b _ => b = w1.heap.size) w3).setCell rfl _
      have B4 : Below w.heap.size w w4 := by rw [e4]; exact R3.bel.setCell (p := ⟨w1.heap.size, 3, none⟩) T3.low _
      have R4 : Hid (Kb w w4 w.heap.size) := R3.wrote hw4 (fun t e => hne e) B4
      have z0 : w4.cell? ⟨w1.heap.size, 0, none⟩ = some (.int .i64 (k : Int)) := by rw [e4, cell_setCell_ne _ _ _ _ _ _ (Or.inr (by decide))]; exact Q3.c0
      have z1 : w4.cell? ⟨w1.heap.size, 1, none⟩ = some (.int .i64 (q : Int)) := by rw [e4, cell_setCell_ne _ _ _ _ _ _ (Or.inr (by decide))]; exact Q3.c1
      have z2 : w4.cell? ⟨w1.heap.size, 2, none⟩ = some (.int .i64 0) := by rw [e4, cell_setCell_ne _ _ _ _ _ _ (Or.inr (by decide))]; exact Q3.c2
      have z3 : w4.cell? ⟨w1.heap.size, 3, none⟩ = some (.slice ao (rls r).length cap) := by rw [e4]; exact World.cell?_setCell_same _ _ _ Q3.c3
      have HO4 : Hid (∀ (W : World), Below w4.heap.size w4 W ∨ True → (∀ b, b ≠ w.heap.size → b ≠ w1.heap.size → W.heap[b]? = w3.heap[b]?) → OwnC W w.heap.size (.slice ao (rls r).length cap) (rls r)) := fun W _ hW => by
        obtain ⟨hl, he | ⟨gx1, cap', cur, hv, hg', hbk, hc, hm, hss, ht⟩⟩ := HO.out
        · exact ⟨hl, .inl he⟩
        · have h1 := HN.out gx1 (by rw [hv]; rfl)
          have h2 := KR.out.hi
          have h3 := KT.out.hi
          exact ⟨hl, .inr ⟨gx1, cap', cur, hv, hg', by rw [hW gx1 (by omega) (by omega)]; exact hbk, hc, hm, hss, ht⟩⟩
      have HW4 : Hid (∀ b, b ≠ w1.heap.size → w4.heap[b]? = w3.heap[b]?) := fun b hb => hw4.block b (fun o e => hb e)
      have E4 : Hid _ := e4
      clear a0 a1 a2 a3 b3 ho
      obtain ⟨a0, a1, a2, a3⟩ := Q3
      have ff3 := T3.f 3
      clear e4 hw4 T3 R3
      obtain ⟨x0, x1, x2, x3, r0, r1, r2, r3⟩ := R4.out.c
      have fr0 := R4.out.f 0
      have fr1 := R4.out.f 1
      have fr2 := R4.out.f 2
      have fr3 := R4.out.f 3
      go_wp2_with (first | rw [← E4.out])
      refine bodyPost_ret (results_tok3 rfl _ _ w.heap.size rfl (R4.out.put _ _ _ _).1) rfl ?_
      refine ⟨told_row (by omega) (HO4.out _ (.inr trivial) (fun b h1 h2 => ?_)) (by rw [HF.out.1]) (by rw [HF.out.2.1]) HF.out.2.2, (R4.out.put _ _ _ _).2.bel⟩
      rw [← HW4.out b h2]
      exact (set4v_wrote w4 w.heap.size _ _ _ _).block b (fun o e => h1 e)
    · have h34 : byt s q ≠ 34 := fun e => h8 (HT.out.1 e)
      have hkk := HD.out h34
      have h8I : ((k : Int) == 8) = false := beq_eq_false_iff_ne.2 (by omega)
      by_cases h6 : k < 6
      · have HF : Hid (tok1 s q = .ok (⟨k, q, 0, []⟩, q + 1)) := by
          show _ = _
          unfold tok1
          rw [if_neg h34, hkk, if_neg h0, if_pos h6]
        have h6I : ((k : Int) == 6) = false := beq_eq_false_iff_ne.2 (by omega)
        have h7I : ((k : Int) == 7) = false := beq_eq_false_iff_ne.2 (by omega)
        clear HT HD hkk h34
        generalize byt s q = y at *
        obtain ⟨a0, a1, a2, a3⟩ := QT.out
        obtain ⟨x0, x1, x2, x3, r0, r1, r2, r3⟩ := KR.out.c
        have fr0 := KR.out.f 0
        have fr1 := KR.out.f 1
        have fr2 := KR.out.f 2
        have fr3 := KR.out.f 3
        go_enter Tryz.func35, Tryz.ntmps35
        go_wp2_with (first | rw [← E1.out])
        refine Calls.mono (CI.out _) ?_; rintro e w3 ⟨rfl, hw3⟩; subst w3
        go_wp2_with (first | rw [← E2.out])
        refine bodyPost_ret (results_tok3 rfl _ _ w.heap.size rfl (KR.out.put _ _ _ _).1) rfl ?_
        exact ⟨told_plain (by rw [HF.out]; rfl) (by rw [HF.out]; rfl) (fun t m e => by rw [HF.out] at e; simp only [Except.ok.injEq, Prod.mk.injEq] at e; rw [← e.1]; rfl), (KR.out.put _ _ _ _).2.bel⟩
      · have hk67 : k = 6 ∨ k = 7 := by omega
        have CG : Hid _ := fun (v : World) => digits_any s (q + 1) hs (by omega) v
        rw [show ((q + 1 : Nat) : Int) = (q : Int) + 1 by omega] at CG
        have HF : Hid (tok1 s q = match nmb s (q + 1) with | .error e => .error e | .ok (m, n) => .ok (⟨k, q, m, []⟩, n)) := by
          show _ = _
          unfold tok1
          rw [if_neg h34, hkk, if_neg h0, if_neg h6]
          cases nmb s (q + 1) <;> rfl
        clear HT HD hkk h34
        generalize byt s q = y at *
        cases hr : nmb s (q + 1) with
        | error r =>
          obtain ⟨p, c⟩ := r
          rw [hr] at CG HF
          unfold rdg at CG
          clear hr
          obtain ⟨w4, e4⟩ : ∃ w4, w4 = w2.setCell ⟨w1.heap.size, 2, none⟩ (.int .i64 0) := ⟨_, rfl⟩
          have hw4 : Wrote (fun b _ => b = w1.heap.size) w2 w4 := by rw [e4]; exact (Wrote.refl (fun b _ => b = w1.heap.size) w2).setCell rfl _
          have B4 : Below w.heap.size w w4 := by rw [e4]; exact KR.out.bel.setCell (p := ⟨w1.heap.size, 2, none⟩) KT.out.low _
          have R4 : Hid (Kb w w4 w.heap.size) := KR.out.wrote hw4 (fun t e => hne e) B4
          have z0 : w4.cell? ⟨w1.heap.size, 0, none⟩ = some (.int .i64 (k : Int)) := by rw [e4, cell_setCell_ne _ _ _ _ _ _ (Or.inr (by decide))]; exact QT.out.c0
          have z1 : w4.cell? ⟨w1.heap.size, 1, none⟩ = some (.int .i64 (q : Int)) := by rw [e4, cell_setCell_ne _ _ _ _ _ _ (Or.inr (by decide))]; exact QT.out.c1
          have z2 : w4.cell? ⟨w1.heap.size, 2, none⟩ = some (.int .i64 0) := by rw [e4]; exact World.cell?_setCell_same _ _ _ QT.out.c2
          have z3 : w4.cell? ⟨w1.heap.size, 3, none⟩ = some (.slice none 0 0) := by rw [e4, cell_setCell_ne _ _ _ _ _ _ (Or.inr (by decide))]; exact QT.out.c3
          have E4 : Hid _ := e4
          have ff2 := KT.out.f 2
          clear e4 hw4 B4
          obtain ⟨a0, a1, a2, a3⟩ := QT.out
          obtain ⟨x0, x1, x2, x3, r0, r1, r2, r3⟩ := R4.out.c
          have fr0 := R4.out.f 0
          have fr1 := R4.out.f 1
          have fr2 := R4.out.f 2
          have fr3 := R4.out.f 3
          have hks : (((k : Int) == 6) = true) ∨ (((k : Int) == 6) = false ∧ ((k : Int) == 7) = true) := by
            rcases hk67 with h | h
            · exact .inl (beq_iff_eq.2 (by omega))
            · exact .inr ⟨beq_eq_false_iff_ne.2 (by omega), beq_iff_eq.2 (by omega)⟩
          clear hk67
          rcases hks with h6I | ⟨h6I, h7I⟩
          all_goals
            go_enter Tryz.func35, Tryz.ntmps35
            go_wp2_with (first | rw [← E1.out])
            refine Calls.mono (CI.out _) ?_; rintro e w3 ⟨rfl, hw3⟩; subst w3
            go_wp2_with (first | rw [← E2.out])
            refine Calls.mono (CG.out _) ?_; rintro e w3 ⟨rfl, rfl⟩
            go_wp2_with (first | rw [← E4.out])
            refine bodyPost_ret (results_tok3 rfl _ _ w.heap.size rfl (R4.out.put _ _ _ _).1) rfl ?_
            exact ⟨told_plain (by rw [HF.out]; rfl) (by rw [HF.out]; rfl) (fun t m e => by rw [HF.out] at e; cases e), (R4.out.put _ _ _ _).2.bel⟩
        | ok r =>
          obtain ⟨m, n⟩ := r
          rw [hr] at CG HF
          unfold rdg at CG
          clear hr
          obtain ⟨w4, e4⟩ : ∃ w4, w4 = w2.setCell ⟨w1.heap.size, 2, none⟩ (.int .i64 (m : Int)) := ⟨_, rfl⟩
          have hw4 : Wrote (fun b _ => b = w1.heap.size) w2 w4 := by rw [e4]; exact (Wrote.refl (fun b _ => b = w1.heap.size) w2).setCell rfl _
          have B4 : Below w.heap.size w w4 := by rw [e4]; exact KR.out.bel.setCell (p := ⟨w1.heap.size, 2, none⟩) KT.out.low _
          have R4 : Hid (Kb w w4 w.heap.size) := KR.out.wrote hw4 (fun t e => hne e) B4
          have z0 : w4.cell? ⟨w1.heap.size, 0, none⟩ = some (.int .i64 (k : Int)) := by rw [e4, cell_setCell_ne _ _ _ _ _ _ (Or.inr (by decide))]; exact QT.out.c0
          have z1 : w4.cell? ⟨w1.heap.size, 1, none⟩ = some (.int .i64 (q : Int)) := by rw [e4, cell_setCell_ne _ _ _ _ _ _ (Or.inr (by decide))]; exact QT.out.c1
          have z2 : w4.cell? ⟨w1.heap.size, 2, none⟩ = some (.int .i64 (m : Int)) := by rw [e4]; exact World.cell?_setCell_same _ _ _ QT.out.c2
          have z3 : w4.cell? ⟨w1.heap.size, 3, none⟩ = some (.slice none 0 0) := by rw [e4, cell_setCell_ne _ _ _ _ _ _ (Or.inr (by decide))]; exact QT.out.c3
          have E4 : Hid _ := e4
          have ff2 := KT.out.f 2
          clear e4 hw4 B4
          obtain ⟨a0, a1, a2, a3⟩ := QT.out
          obtain ⟨x0, x1, x2, x3, r0, r1, r2, r3⟩ := R4.out.c
          have fr0 := R4.out.f 0
          have fr1 := R4.out.f 1
          have fr2 := R4.out.f 2
          have fr3 := R4.out.f 3
          have hks : (((k : Int) == 6) = true) ∨ (((k : Int) == 6) = false ∧ ((k : Int) == 7) = true) := by
            rcases hk67 with h | h
            · exact .inl (beq_iff_eq.2 (by omega))
            · exact .inr ⟨beq_eq_false_iff_ne.2 (by omega), beq_iff_eq.2 (by omega)⟩
          clear hk67
          rcases hks with h6I | ⟨h6I, h7I⟩
          all_goals
            go_enter Tryz.func35, Tryz.ntmps35
            go_wp2_with (first | rw [← E1.out])
            refine Calls.mono (CI.out _) ?_; rintro e w3 ⟨rfl, hw3⟩; subst w3
            go_wp2_with (first | rw [← E2.out])
            refine Calls.mono (CG.out _) ?_; rintro e w3 ⟨rfl, rfl⟩
            go_wp2_with (first | rw [← E4.out])
            refine bodyPost_ret (results_tok3 rfl _ _ w.heap.size rfl (R4.out.put _ _ _ _).1) rfl ?_
            exact ⟨told_plain (by rw [HF.out]; rfl) (by rw [HF.out]; rfl) (fun t m e => by rw [HF.out] at e; simp only [Except.ok.injEq, Prod.mk.injEq] at e; rw [← e.1]; rfl), (R4.out.put _ _ _ _).2.bel⟩

end Cls
end Go.Proofs.YtbnnobeahliffaaGreatDoor
