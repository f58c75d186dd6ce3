/- Contracts of token's readElement and readDigits. (Written by mktk4.py.) -/
import Derived.Test.YtbnnobeahliffaaGreatDoorTkRd3
set_option linter.unusedVariables false
namespace Go.Proofs.YtbnnobeahliffaaGreatDoor
open Go.RowKit
namespace Cls

theorem elm_rby {s : ByteArray} {q : Nat} (hq : q < s.size) (h1 : byt s q ≠ 63) (h2 : byt s q ≠ 91) (h3 : byt s q ≠ 34) : elm s q = match rby aptE 130 s q with | .error e => .error e | .ok (b, n) => .ok (rg b (b + 1), n) := by
  unfold elm rby
  rw [if_neg h1, if_neg h2, if_neg (show ¬ s.size ≤ q by omega)]
  by_cases h92 : byt s q = 92
  · rw [if_pos h92, if_pos h92]
    cases esp s q with
    | error e => rfl
    | ok r => rfl
  · rw [if_neg h92, if_neg h92]
    have hc : ¬ aptE.contains (byt s q) = true := by
      rw [List.contains_iff_mem]
      simp [aptE]
      omega
    by_cases hs : sgn (byt s q) = false
    · rw [if_pos hs, if_pos (.inl hs)]
    · rw [if_neg hs, if_neg (by rintro (e | e); exact hs e; exact hc e)]

theorem rby_next {A : List Nat} {wr : Nat} {s : ByteArray} {q b n : Nat} (h : rby A wr s q = .ok (b, n)) : q < n ∧ n ≤ s.size ∧ b < 256 := by
  unfold rby at h
  split at h
  · cases h
  split at h
  · obtain ⟨h1, h2, h3⟩ := esp_next h
    exact ⟨by omega, h2, h3⟩
  split at h
  · cases h
  · simp only [Except.ok.injEq, Prod.mk.injEq] at h
    obtain ⟨rfl, rfl⟩ := h
    exact ⟨by omega, by omega, byt_lt s _⟩

theorem rby_code0 {A : List Nat} {wr : Nat} (hw : wr ≠ 0) {s : ByteArray} {q p c : Nat} (h : rby A wr s q = .error (p, c)) : c ≠ 0 := by
  intro e; subst e
  unfold rby at h
  split at h
  · simp at h
  split at h
  · have := esp_code h; omega
  split at h
  · simp only [Except.error.injEq, Prod.mk.injEq] at h; omega
  · cases h

set_option maxRecDepth 100000 in
set_option maxHeartbeats 2000000 in
theorem element_any (s : ByteArray) (q : Nat) (hs : s.size ≤ 1000000) (hq : q < s.size) (h34 : byt s q ≠ 34) (w : World) :
    Calls Tryz.prog 78 #[.string s, .int .i64 (q : Int)] w fun e w' => e = .returned (rdk (elm s q)) ∧ Below w.heap.size w w' := by
  obtain ⟨w1, e1⟩ : ∃ w1, w1 = w.alloc (.cells #[.int .u64 0, .int .u64 0, .int .u64 0, .int .u64 0] 67) := ⟨_, rfl⟩
  have hb := kb_new w (.int .u64 0) (.int .u64 0) (.int .u64 0) (.int .u64 0) 67
  rw [← e1] at hb
  have E1 : Hid _ := e1
  have HB : Hid (Kb w w1 w.heap.size) := hb
  obtain ⟨y0, y1, y2, y3, c0, c1, c2, c3⟩ := hb.c
  have f0 := hb.f 0
  have f1 := hb.f 1
  have f2 := hb.f 2
  have f3 := hb.f 3
  clear hb e1
  have hi : ∀ w, (Instr.index 9 (.string s) (.int .i64 (q : Int))).run Tryz.prog w = .ok (.int .u8 ((byt s q : Nat) : Int)) w := fun w => idx_str s q hq w
  have hw1 : IntKind.i64.wrap ((q : Int) + 1) = (q : Int) + 1 := by rw [IntKind.wrap_i64]; omega
  by_cases h63 : byt s q = 63
  · have HF : Hid (elm s q = .ok (fun _ => true, q + 1)) := by show _ = _; unfold elm; rw [if_pos h63]
    have CF : Hid _ := fun (v : World) => full_any v
    rw [h63] at hi
    go_enter Tryz.func78, Tryz.ntmps78
    go_wp2_with (first | rw [← E1.out])
    refine Calls.mono (CF.out _) ?_; rintro e w3 ⟨rfl, b3⟩
    have H3 : Hid (Kb w w3 w.heap.size) := HB.out.grow b3
    clear b3 c0 c1 c2 c3 f0 f1 f2 f3
    obtain ⟨y0, y1, y2, y3, c0, c1, c2, c3⟩ := H3.out.c
    have f0 := H3.out.f 0
    have f1 := H3.out.f 1
    have f2 := H3.out.f 2
    have f3 := H3.out.f 3
    go_wp2_with fail
    refine bodyPost_ret (results_cls3 rfl _ _ w.heap.size rfl (H3.out.put _ _ _ _).1) rfl ?_
    exact ⟨by rw [HF.out]; rfl, (H3.out.put _ _ _ _).2.bel⟩
  · have h63I : ¬ ((byt s q : Nat) : Int) = 63 := by omega
    by_cases h91 : byt s q = 91
    · have HF : Hid (elm s q = clr s q) := by show _ = _; unfold elm; rw [if_neg h63, if_pos h91]
      have CC : Hid _ := fun (v : World) => class_any s q hs hq v
      rw [h91] at hi
      clear h63I h63 h34
      cases hr : clr s q with
      | ok r =>
        obtain ⟨f, n⟩ := r
        rw [hr] at CC HF
        unfold rdk at CC
        go_enter Tryz.func78, Tryz.ntmps78
        go_wp2_with (first | rw [← E1.out])
        refine Calls.mono (CC.out _) ?_; rintro e w3 ⟨rfl, b3⟩
        have H3 : Hid (Kb w w3 w.heap.size) := HB.out.grow b3
        clear b3 c0 c1 c2 c3 f0 f1 f2 f3
        obtain ⟨y0, y1, y2, y3, c0, c1, c2, c3⟩ := H3.out.c
        have f0 := H3.out.f 0
        have f1 := H3.out.f 1
        have f2 := H3.out.f 2
        have f3 := H3.out.f 3
        go_wp2_with fail
        refine bodyPost_ret (results_cls3 rfl _ _ w.heap.size rfl (H3.out.put _ _ _ _).1) rfl ?_
        exact ⟨by rw [HF.out]; rfl, (H3.out.put _ _ _ _).2.bel⟩
      | error r =>
        obtain ⟨p, c⟩ := r
        rw [hr] at CC HF
        unfold rdk at CC
        go_enter Tryz.func78, Tryz.ntmps78
        go_wp2_with (first | rw [← E1.out])
        refine Calls.mono (CC.out _) ?_; rintro e w3 ⟨rfl, b3⟩
        have H3 : Hid (Kb w w3 w.heap.size) := HB.out.grow b3
        clear b3 c0 c1 c2 c3 f0 f1 f2 f3
        obtain ⟨y0, y1, y2, y3, c0, c1, c2, c3⟩ := H3.out.c
        have f0 := H3.out.f 0
        have f1 := H3.out.f 1
        have f2 := H3.out.f 2
        have f3 := H3.out.f 3
        go_wp2_with fail
        refine bodyPost_ret (results_cls3 rfl _ _ w.heap.size rfl (H3.out.put _ _ _ _).1) rfl ?_
        exact ⟨by rw [HF.out]; rfl, (H3.out.put _ _ _ _).2.bel⟩
    · have h91I : ¬ ((byt s q : Nat) : Int) = 91 := by omega
      have HF : Hid _ := elm_rby hq h63 h91 h34
      have CB : Hid _ := fun (v : World) => byte_any elT aptE (fun b hb => fpos_el hb) 130 s q hs (by omega) v
      unfold elT at CB
      cases hr : rby aptE 130 s q with
      | error r =>
        obtain ⟨p, c⟩ := r
        have hc : ¬ (c : Int) = 0 := by have := rby_code0 (by decide) hr; omega
        rw [hr] at CB HF
        unfold rdt at CB
        clear hr h34 h63 h91
        generalize byt s q = x at *
        go_enter Tryz.func78, Tryz.ntmps78
        go_wp2_with (first | rw [← E1.out])
        refine Calls.mono (CB.out _) ?_; rintro e w3 ⟨rfl, rfl⟩
        go_wp2_with fail
        refine bodyPost_ret (results_cls3 rfl _ _ w.heap.size rfl (HB.out.put _ _ _ _).1) rfl ?_
        exact ⟨by rw [HF.out]; rfl, (HB.out.put _ _ _ _).2.bel⟩
      | ok r =>
        obtain ⟨b, n⟩ := r
        have hb := (rby_next hr).2.2
        have CR : Hid _ := fun (v : World) => range_any b b hb hb v
        rw [hr] at CB HF
        unfold rdt at CB
        clear hr h34 h63 h91
        generalize byt s q = x at *
        go_enter Tryz.func78, Tryz.ntmps78
        go_wp2_with (first | rw [← E1.out])
        refine Calls.mono (CB.out _) ?_; rintro e w2 ⟨rfl, rfl⟩
        go_wp2_with fail
        refine Calls.mono (CR.out _) ?_; rintro e w3 ⟨rfl, b3⟩
        have H3 : Hid (Kb w w3 w.heap.size) := HB.out.grow b3
        clear b3 c0 c1 c2 c3 f0 f1 f2 f3
        obtain ⟨y0, y1, y2, y3, c0, c1, c2, c3⟩ := H3.out.c
        have f0 := H3.out.f 0
        have f1 := H3.out.f 1
        have f2 := H3.out.f 2
        have f3 := H3.out.f 3
        go_wp2_with fail
        refine bodyPost_ret (results_cls3 rfl _ _ w.heap.size rfl (H3.out.put _ _ _ _).1) rfl ?_
        exact ⟨by rw [HF.out]; rfl, (H3.out.put _ _ _ _).2.bel⟩

end Cls
end Go.Proofs.YtbnnobeahliffaaGreatDoor
