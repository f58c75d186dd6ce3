/- Contracts of beagleref13.kind and number. (Written by mktk2.py.) -/
import Derived.Test.YtbnnobeahliffaaGreatDoorTkEsc
import Derived.Test.YtbnnobeahliffaaGreatDoorTkLex
set_option linter.unusedVariables false
namespace Go.Proofs.YtbnnobeahliffaaGreatDoor
open Go.RowKit
namespace Cls

def sgT : ByteArray := ⟨#[40, 41, 38, 124, 33, 62, 126]⟩

theorem knd_at : ∀ k, k < 7 → knd (byt sgT k) = k + 1 := by decide

theorem knd_none {b : Nat} (h : ∀ t, t < 7 → byt sgT t ≠ b) : knd b = 0 := by
  have h0 : 40 ≠ b := h 0 (by decide)
  have h1 : 41 ≠ b := h 1 (by decide)
  have h2 : 38 ≠ b := h 2 (by decide)
  have h3 : 124 ≠ b := h 3 (by decide)
  have h4 : 33 ≠ b := h 4 (by decide)
  have h5 : 62 ≠ b := h 5 (by decide)
  have h6 : 126 ≠ b := h 6 (by decide)
  unfold knd
  rw [if_neg (Ne.symm h0), if_neg (Ne.symm h1), if_neg (Ne.symm h2), if_neg (Ne.symm h3), if_neg (Ne.symm h4), if_neg (Ne.symm h5), if_neg (Ne.symm h6)]

set_option maxHeartbeats 1000000 in
theorem kind13_any (b : Nat) (w : World) :
    Calls Tryz.prog 66 #[.int .u8 (b : Int)] w fun e w' => e = .returned (.int .i64 ((knd b : Nat) : Int)) ∧ Below w.heap.size w w' := by
  go_enter Tryz.func66, Tryz.ntmps66
  go_wp2_with fail
  go_loopw [4] (fun vk wr => Below w.heap.size w wr ∧ ∃ k : Nat, k ≤ 7 ∧ vk = .int .i64 k ∧ ∀ t, t < k → byt sgT t ≠ b) (fun vk _ => 7 - (intOf vk).toNat)
  case atStart => exact ⟨Below.refl _ _, 0, Nat.zero_le _, rfl, fun t ht => by omega⟩
  case round =>
    obtain ⟨hbel, k, hk, rfl, hall⟩ := hrel
    have HB : Hid _ := hbel
    have HA : Hid _ := hall
    clear hall hbel
    by_cases hkn : k < 7
    · have hkI : (k : Int) < 7 := by omega
      have hix : ∀ w, (Instr.index 9 (.string sgT) (.int .i64 (k : Int))).run Tryz.prog w = .ok (.int .u8 ((byt sgT k : Nat) : Int)) w := fun w => idx_str sgT k hkn w
      have hkd := knd_at k hkn
      by_cases hq : byt sgT k = b
      · rw [hq] at hix hkd
        have HY : Hid (((knd b : Nat) : Int) = (k : Int) + 1) := by show _ = _; rw [hkd]; omega
        have hw : IntKind.i64.wrap ((k : Int) + 1) = (k : Int) + 1 := by rw [IntKind.wrap_i64]; omega
        unfold sgT at hix
        clear hkd hq
        go_wp2_with fail
        go_ret
        exact ⟨by rw [HY.out]; rfl, HB.out⟩
      · have HS : Hid (∀ t, t < k + 1 → byt sgT t ≠ b) := fun t ht => by
          by_cases e : t = k
          · subst e; exact hq
          · exact HA.out t (by omega)
        have hqI : ¬ ((byt sgT k : Nat) : Int) = (b : Int) := by omega
        clear hkd hq
        generalize byt sgT k = x at *
        unfold sgT at hix
        go_wp2_with fail
        go_roundw
        case rel => exact ⟨HB.out, k + 1, by omega, by go_num, HS.out⟩
        case measure => simp [intOf]; omega
    · obtain rfl : k = 7 := by omega
      have HN : Hid (knd b = 0) := knd_none HA.out
      go_wp2_with fail
      go_ret
      exact ⟨by rw [HN.out]; rfl, HB.out⟩

/-- What is read of a number, as a 'Got'. -/
def rdn : Rd Nat → Value
  | .ok (v, n) => gotv 0 0 0 0 0 (.slice none 0 0) (v : Int) (n : Int) 0
  | .error (p, c) => gotv 0 0 0 0 0 (.slice none 0 0) 0 (p : Int) (c : Int)

theorem nml_step {s : ByteArray} {q tt n f : Nat} (h : nml s (s.size + 1) q 0 = nml s (f + 1) tt n) (h1 : tt < s.size) (h2 : dig (byt s tt) = true) : nml s (s.size + 1) q 0 = nml s f (tt + 1) (if n ≤ 1000000 then 10 * n + (byt s tt - 48) else n) := by
  rw [h, nml, if_pos ⟨h1, h2⟩]

theorem nml_stop {s : ByteArray} {q tt n f : Nat} (h : nml s (s.size + 1) q 0 = nml s (f + 1) tt n) (h1 : ¬ (tt < s.size ∧ dig (byt s tt) = true)) : nml s (s.size + 1) q 0 = (tt, n) := by
  rw [h, nml, if_neg h1]

theorem nmb_no {s : ByteArray} {q tt n : Nat} (h : nml s (s.size + 1) q 0 = (tt, n)) (hh : tt = q ∨ (byt s q = 48 ∧ q + 1 < tt) ∨ 1000000 < n) : nmb s q = .error (q, 134) := by
  unfold nmb
  rw [h]
  exact if_pos hh

theorem nmb_yes {s : ByteArray} {q tt n : Nat} (h : nml s (s.size + 1) q 0 = (tt, n)) (hh : ¬ (tt = q ∨ (byt s q = 48 ∧ q + 1 < tt) ∨ 1000000 < n)) : nmb s q = .ok (n, tt) := by
  unfold nmb
  rw [h]
  exact if_neg hh

set_option maxRecDepth 100000 in
set_option maxHeartbeats 4000000 in
theorem number13_any (s : ByteArray) (q : Nat) (hs : s.size ≤ 1000000) (hq2 : q ≤ 2000000) (w : World) :
    Calls Tryz.prog 67 #[.string s, .int .i64 (q : Int)] w fun e w' => e = .returned (rdn (nmb s q)) ∧ Below w.heap.size w w' := by
  obtain ⟨w1, e1⟩ : ∃ w1, w1 = w.alloc got0 := ⟨_, rfl⟩
  have hb := gb_new w
  rw [← e1] at hb
  have E1 : Hid (w1 = w.alloc (.cells #[.int .u8 0, .int .u64 0, .int .u64 0, .int .u64 0, .int .u64 0, .slice none 0 0, .int .i64 0, .int .i64 0, .int .i64 0] 80)) := e1
  have HB : Hid (Gb w w1 w.heap.size) := hb
  clear hb e1
  obtain ⟨v0, v1, v2, v3, v4, v5, v6, v7, v8, c0, c1, c2, c3, c4, c5, c6, c7, c8⟩ := HB.out.c
  have f0 := HB.out.f 0
  have f1 := HB.out.f 1
  have f2 := HB.out.f 2
  have f3 := HB.out.f 3
  have f4 := HB.out.f 4
  have f5 := HB.out.f 5
  have f6 := HB.out.f 6
  have f7 := HB.out.f 7
  have f8 := HB.out.f 8
  have hw1 : IntKind.i64.wrap ((q : Int) + 1) = (q : Int) + 1 := by rw [IntKind.wrap_i64]; omega
  clear c0 c1 c2 c3 c4 c5 c6 c7 c8 f0 f1 f2 f3 f4 f5 f6 f7 f8
  go_enter Tryz.func67, Tryz.ntmps67
  go_wp2_with (first | rw [← E1.out])
  clear E1
  go_loopw [5, 6] (fun vt vn wr => Gb w wr w.heap.size ∧ ∃ tt n f : Nat, q ≤ tt ∧ (tt = q ∨ tt ≤ s.size) ∧ n ≤ 10000009 ∧ vt = .int .i64 tt ∧ vn = .int .i64 n ∧ f + (tt - q) = s.size ∧ nml s (s.size + 1) q 0 = nml s (f + 1) tt n) (fun vt _ _ => s.size - (intOf vt).toNat)
  case atStart => exact ⟨HB.out, q, 0, s.size, Nat.le_refl _, .inl rfl, by omega, rfl, rfl, by omega, rfl⟩
  case round =>
    obtain ⟨hg, tt, n, f, hto, hts, hn, rfl, rfl, hf, hx⟩ := hrel
    have HG : Hid (Gb w wr w.heap.size) := hg
    obtain ⟨v0, v1, v2, v3, v4, v5, v6, v7, v8, c0, c1, c2, c3, c4, c5, c6, c7, c8⟩ := HG.out.c
    have f0 := HG.out.f 0
    have f1 := HG.out.f 1
    have f2 := HG.out.f 2
    have f3 := HG.out.f 3
    have f4 := HG.out.f 4
    have f5 := HG.out.f 5
    have f6 := HG.out.f 6
    have f7 := HG.out.f 7
    have f8 := HG.out.f 8
    clear hg
    by_cases h1 : tt < s.size
    · have h1I : (tt : Int) < (s.size : Int) := by omega
      have hit : ∀ w, (Instr.index 9 (.string s) (.int .i64 (tt : Int))).run Tryz.prog w = .ok (.int .u8 ((byt s tt : Nat) : Int)) w := fun w => idx_str s tt h1 w
      have hbt := byt_lt s tt
      by_cases h2 : 48 ≤ byt s tt
      · have h2I : (48 : Int) ≤ ((byt s tt : Nat) : Int) := by omega
        by_cases h3 : byt s tt ≤ 57
        · have h3I : ((byt s tt : Nat) : Int) ≤ 57 := by omega
          have hd : dig (byt s tt) = true := by unfold dig; rw [decide_eq_true h2, decide_eq_true h3]; rfl
          have hx2 := nml_step hx h1 hd
          have hwt : IntKind.i64.wrap ((tt : Int) + 1) = (tt : Int) + 1 := by rw [IntKind.wrap_i64]; omega
          by_cases h4 : n ≤ 1000000
          · rw [if_pos h4] at hx2
            have h4I : (n : Int) ≤ 1000000 := by omega
            have HX : Hid (∃ f', f = f' + 1 ∧ nml s (s.size + 1) q 0 = nml s (f' + 1) (tt + 1) (10 * n + (byt s tt - 48))) := ⟨f - 1, by omega, by rw [show f - 1 + 1 = f by omega]; exact hx2⟩
            have e10 : IntKind.i64.wrap (10 * (n : Int)) = 10 * (n : Int) := by rw [IntKind.wrap_i64]; omega
            have ec : IntKind.i64.wrap ((byt s tt : Nat) : Int) = ((byt s tt : Nat) : Int) := by rw [IntKind.wrap_i64]; omega
            have ea : IntKind.i64.wrap (10 * (n : Int) + ((byt s tt : Nat) : Int)) = 10 * (n : Int) + ((byt s tt : Nat) : Int) := by rw [IntKind.wrap_i64]; omega
            have es : IntKind.i64.wrap (10 * (n : Int) + ((byt s tt : Nat) : Int) - 48) = 10 * (n : Int) + ((byt s tt : Nat) : Int) - 48 := by rw [IntKind.wrap_i64]; omega
            clear hx hx2 hd
            generalize byt s tt = x at *
            go_wp2_with fail
            go_roundw
            case rel =>
              obtain ⟨f', hf', hx'⟩ := HX.out
              exact ⟨HG.out, tt + 1, 10 * n + (x - 48), f', by omega, .inr (by omega), by omega, by go_num, by congr 1; omega, by omega, hx'⟩
            case measure => simp [intOf]; omega
          · rw [if_neg h4] at hx2
            have h4I : ¬ (n : Int) ≤ 1000000 := by omega
            have HX : Hid (∃ f', f = f' + 1 ∧ nml s (s.size + 1) q 0 = nml s (f' + 1) (tt + 1) n) := ⟨f - 1, by omega, by rw [show f - 1 + 1 = f by omega]; exact hx2⟩
            clear hx hx2 hd
            generalize byt s tt = x at *
            go_wp2_with fail
            go_roundw
            case rel =>
              obtain ⟨f', hf', hx'⟩ := HX.out
              exact ⟨HG.out, tt + 1, n, f', by omega, .inr (by omega), by omega, by go_num, rfl, by omega, hx'⟩
            case measure => simp [intOf]; omega
        · have h3I : ¬ ((byt s tt : Nat) : Int) ≤ 57 := by omega
          have HX : Hid (nml s (s.size + 1) q 0 = (tt, n)) := nml_stop hx (fun h => by have := h.2; unfold dig at this; rw [decide_eq_false h3, Bool.and_false] at this; cases this)
          clear hx
          by_cases g1 : tt = q
          · have HN : Hid (nmb s q = .error (q, 134)) := nmb_no HX.out (.inl g1)
            subst g1
            generalize byt s tt = x at *
            go_wp2_with fail
            refine bodyPost_ret (results_got rfl _ _ w.heap.size rfl (HG.out.set _ _ _ _ _ _ _ _ _).1) rfl ?_
            exact ⟨by rw [HN.out]; rfl, (HG.out.set _ _ _ _ _ _ _ _ _).2⟩
          · generalize byt s tt = x at hit h2 h3 h2I h3I hbt
            have hqs : q < s.size := by omega
            have hiq : ∀ w, (Instr.index 9 (.string s) (.int .i64 (q : Int))).run Tryz.prog w = .ok (.int .u8 ((byt s q : Nat) : Int)) w := fun w => idx_str s q hqs w
            have g1I : ¬ (tt : Int) = (q : Int) := by omega
            by_cases g2 : byt s q = 48
            · rw [g2] at hiq
              by_cases g3 : q + 1 < tt
              · have HN : Hid (nmb s q = .error (q, 134)) := nmb_no HX.out (.inr (.inl ⟨g2, g3⟩))
                have g3I : (q : Int) + 1 < (tt : Int) := by omega
                go_wp2_with fail
                refine bodyPost_ret (results_got rfl _ _ w.heap.size rfl (HG.out.set _ _ _ _ _ _ _ _ _).1) rfl ?_
                exact ⟨by rw [HN.out]; rfl, (HG.out.set _ _ _ _ _ _ _ _ _).2⟩
              · have g3I : ¬ (q : Int) + 1 < (tt : Int) := by omega
                by_cases g4 : 1000000 < n
                · have HN : Hid (nmb s q = .error (q, 134)) := nmb_no HX.out (.inr (.inr g4))
                  have g4I : (1000000 : Int) < (n : Int) := by omega
                  go_wp2_with fail
                  refine bodyPost_ret (results_got rfl _ _ w.heap.size rfl (HG.out.set _ _ _ _ _ _ _ _ _).1) rfl ?_
                  exact ⟨by rw [HN.out]; rfl, (HG.out.set _ _ _ _ _ _ _ _ _).2⟩
                · have HN : Hid (nmb s q = .ok (n, tt)) := nmb_yes HX.out (by omega)
                  have g4I : ¬ (1000000 : Int) < (n : Int) := by omega
                  go_wp2_with fail
                  refine bodyPost_ret (results_got rfl _ _ w.heap.size rfl (HG.out.set _ _ _ _ _ _ _ _ _).1) rfl ?_
                  exact ⟨by rw [HN.out]; rfl, (HG.out.set _ _ _ _ _ _ _ _ _).2⟩
            · have g2I : ¬ ((byt s q : Nat) : Int) = 48 := by omega
              by_cases g4 : 1000000 < n
              · have HN : Hid (nmb s q = .error (q, 134)) := nmb_no HX.out (.inr (.inr g4))
                have g4I : (1000000 : Int) < (n : Int) := by omega
                generalize byt s q = z at hiq g2 g2I
                go_wp2_with fail
                refine bodyPost_ret (results_got rfl _ _ w.heap.size rfl (HG.out.set _ _ _ _ _ _ _ _ _).1) rfl ?_
                exact ⟨by rw [HN.out]; rfl, (HG.out.set _ _ _ _ _ _ _ _ _).2⟩
              · have HN : Hid (nmb s q = .ok (n, tt)) := nmb_yes HX.out (by omega)
                have g4I : ¬ (1000000 : Int) < (n : Int) := by omega
                generalize byt s q = z at hiq g2 g2I
                go_wp2_with fail
                refine bodyPost_ret (results_got rfl _ _ w.heap.size rfl (HG.out.set _ _ _ _ _ _ _ _ _).1) rfl ?_
                exact ⟨by rw [HN.out]; rfl, (HG.out.set _ _ _ _ _ _ _ _ _).2⟩
      · have h2I : ¬ (48 : Int) ≤ ((byt s tt : Nat) : Int) := by omega
        have HX : Hid (nml s (s.size + 1) q 0 = (tt, n)) := nml_stop hx (fun h => by have := h.2; unfold dig at this; rw [decide_eq_false h2, Bool.false_and] at this; cases this)
        clear hx
        by_cases g1 : tt = q
        · have HN : Hid (nmb s q = .error (q, 134)) := nmb_no HX.out (.inl g1)
          subst g1
          generalize byt s tt = x at *
          go_wp2_with fail
          refine bodyPost_ret (results_got rfl _ _ w.heap.size rfl (HG.out.set _ _ _ _ _ _ _ _ _).1) rfl ?_
          exact ⟨by rw [HN.out]; rfl, (HG.out.set _ _ _ _ _ _ _ _ _).2⟩
        · generalize byt s tt = x at hit h2 h2I hbt
          have hqs : q < s.size := by omega
          have hiq : ∀ w, (Instr.index 9 (.string s) (.int .i64 (q : Int))).run Tryz.prog w = .ok (.int .u8 ((byt s q : Nat) : Int)) w := fun w => idx_str s q hqs w
          have g1I : ¬ (tt : Int) = (q : Int) := by omega
          by_cases g2 : byt s q = 48
          · rw [g2] at hiq
            by_cases g3 : q + 1 < tt
            · have HN : Hid (nmb s q = .error (q, 134)) := nmb_no HX.out (.inr (.inl ⟨g2, g3⟩))
              have g3I : (q : Int) + 1 < (tt : Int) := by omega
              go_wp2_with fail
              refine bodyPost_ret (results_got rfl _ _ w.heap.size rfl (HG.out.set _ _ _ _ _ _ _ _ _).1) rfl ?_
              exact ⟨by rw [HN.out]; rfl, (HG.out.set _ _ _ _ _ _ _ _ _).2⟩
            · have g3I : ¬ (q : Int) + 1 < (tt : Int) := by omega
              by_cases g4 : 1000000 < n
              · have HN : Hid (nmb s q = .error (q, 134)) := nmb_no HX.out (.inr (.inr g4))
                have g4I : (1000000 : Int) < (n : Int) := by omega
                go_wp2_with fail
                refine bodyPost_ret (results_got rfl _ _ w.heap.size rfl (HG.out.set _ _ _ _ _ _ _ _ _).1) rfl ?_
                exact ⟨by rw [HN.out]; rfl, (HG.out.set _ _ _ _ _ _ _ _ _).2⟩
              · have HN : Hid (nmb s q = .ok (n, tt)) := nmb_yes HX.out (by omega)
                have g4I : ¬ (1000000 : Int) < (n : Int) := by omega
                go_wp2_with fail
                refine bodyPost_ret (results_got rfl _ _ w.heap.size rfl (HG.out.set _ _ _ _ _ _ _ _ _).1) rfl ?_
                exact ⟨by rw [HN.out]; rfl, (HG.out.set _ _ _ _ _ _ _ _ _).2⟩
          · have g2I : ¬ ((byt s q : Nat) : Int) = 48 := by omega
            by_cases g4 : 1000000 < n
            · have HN : Hid (nmb s q = .error (q, 134)) := nmb_no HX.out (.inr (.inr g4))
              have g4I : (1000000 : Int) < (n : Int) := by omega
              generalize byt s q = z at hiq g2 g2I
              go_wp2_with fail
              refine bodyPost_ret (results_got rfl _ _ w.heap.size rfl (HG.out.set _ _ _ _ _ _ _ _ _).1) rfl ?_
              exact ⟨by rw [HN.out]; rfl, (HG.out.set _ _ _ _ _ _ _ _ _).2⟩
            · have HN : Hid (nmb s q = .ok (n, tt)) := nmb_yes HX.out (by omega)
              have g4I : ¬ (1000000 : Int) < (n : Int) := by omega
              generalize byt s q = z at hiq g2 g2I
              go_wp2_with fail
              refine bodyPost_ret (results_got rfl _ _ w.heap.size rfl (HG.out.set _ _ _ _ _ _ _ _ _).1) rfl ?_
              exact ⟨by rw [HN.out]; rfl, (HG.out.set _ _ _ _ _ _ _ _ _).2⟩
    · have h1I : ¬ (tt : Int) < (s.size : Int) := by omega
      have HX : Hid (nml s (s.size + 1) q 0 = (tt, n)) := nml_stop hx (fun h => h1 h.1)
      clear hx
      by_cases g1 : tt = q
      · have HN : Hid (nmb s q = .error (q, 134)) := nmb_no HX.out (.inl g1)
        subst g1
        go_wp2_with fail
        refine bodyPost_ret (results_got rfl _ _ w.heap.size rfl (HG.out.set _ _ _ _ _ _ _ _ _).1) rfl ?_
        exact ⟨by rw [HN.out]; rfl, (HG.out.set _ _ _ _ _ _ _ _ _).2⟩
      · have hqs : q < s.size := by omega
        have hiq : ∀ w, (Instr.index 9 (.string s) (.int .i64 (q : Int))).run Tryz.prog w = .ok (.int .u8 ((byt s q : Nat) : Int)) w := fun w => idx_str s q hqs w
        have g1I : ¬ (tt : Int) = (q : Int) := by omega
        by_cases g2 : byt s q = 48
        · rw [g2] at hiq
          by_cases g3 : q + 1 < tt
          · have HN : Hid (nmb s q = .error (q, 134)) := nmb_no HX.out (.inr (.inl ⟨g2, g3⟩))
            have g3I : (q : Int) + 1 < (tt : Int) := by omega
            go_wp2_with fail
            refine bodyPost_ret (results_got rfl _ _ w.heap.size rfl (HG.out.set _ _ _ _ _ _ _ _ _).1) rfl ?_
            exact ⟨by rw [HN.out]; rfl, (HG.out.set _ _ _ _ _ _ _ _ _).2⟩
          · have g3I : ¬ (q : Int) + 1 < (tt : Int) := by omega
            by_cases g4 : 1000000 < n
            · have HN : Hid (nmb s q = .error (q, 134)) := nmb_no HX.out (.inr (.inr g4))
              have g4I : (1000000 : Int) < (n : Int) := by omega
              go_wp2_with fail
              refine bodyPost_ret (results_got rfl _ _ w.heap.size rfl (HG.out.set _ _ _ _ _ _ _ _ _).1) rfl ?_
              exact ⟨by rw [HN.out]; rfl, (HG.out.set _ _ _ _ _ _ _ _ _).2⟩
            · have HN : Hid (nmb s q = .ok (n, tt)) := nmb_yes HX.out (by omega)
              have g4I : ¬ (1000000 : Int) < (n : Int) := by omega
              go_wp2_with fail
              refine bodyPost_ret (results_got rfl _ _ w.heap.size rfl (HG.out.set _ _ _ _ _ _ _ _ _).1) rfl ?_
              exact ⟨by rw [HN.out]; rfl, (HG.out.set _ _ _ _ _ _ _ _ _).2⟩
        · have g2I : ¬ ((byt s q : Nat) : Int) = 48 := by omega
          by_cases g4 : 1000000 < n
          · have HN : Hid (nmb s q = .error (q, 134)) := nmb_no HX.out (.inr (.inr g4))
            have g4I : (1000000 : Int) < (n : Int) := by omega
            generalize byt s q = z at hiq g2 g2I
            go_wp2_with fail
            refine bodyPost_ret (results_got rfl _ _ w.heap.size rfl (HG.out.set _ _ _ _ _ _ _ _ _).1) rfl ?_
            exact ⟨by rw [HN.out]; rfl, (HG.out.set _ _ _ _ _ _ _ _ _).2⟩
          · have HN : Hid (nmb s q = .ok (n, tt)) := nmb_yes HX.out (by omega)
            have g4I : ¬ (1000000 : Int) < (n : Int) := by omega
            generalize byt s q = z at hiq g2 g2I
            go_wp2_with fail
            refine bodyPost_ret (results_got rfl _ _ w.heap.size rfl (HG.out.set _ _ _ _ _ _ _ _ _).1) rfl ?_
            exact ⟨by rw [HN.out]; rfl, (HG.out.set _ _ _ _ _ _ _ _ _).2⟩

end Cls
end Go.Proofs.YtbnnobeahliffaaGreatDoor
