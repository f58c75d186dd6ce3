/- Contract of beagleref13.pattern. (Written by mktk9.py.) -/
import Derived.Test.YtbnnobeahliffaaGreatDoorTkRf2
set_option linter.unusedVariables false
namespace Go.Proofs.YtbnnobeahliffaaGreatDoor
open Go.RowKit
namespace Cls

/-- Where the loop of a pattern stands. -/
structure P13 (w w1 wr : World) (s : ByteArray) (q0 q fuel : Nat) (out : List (Nat → Bool)) (v : Value) : Prop where
  r : Gb w wr w.heap.size
  bel : Below w1.heap.size w1 wr
  own : OwnC wr w1.heap.size v out
  hi : q ≤ s.size
  fu : s.size + 1 ≤ fuel + q
  len : out.length ≤ 64
  eq : ptl s (s.size + 1) q0 [] = ptl s fuel q out

/-- What is told of a pattern. -/
def Rdp (B : Nat) (w' : World) (r : Rd (List (Nat → Bool))) (e : Ending) : Prop := ∃ (b x y z u : Int) (v : Value), e = .returned (gotv b x y z u v 0 (rpl r : Nat) (rcd r : Nat)) ∧ OwnC w' B v (rls r)

theorem ownC_set9 {w v : World} {g : Nat} {B : Nat} {val : Value} {L : List (Nat → Bool)} (h : OwnC v B val L) (hB : g < B) (x0 x1 x2 x3 x4 x5 x6 x7 x8 : Value) : OwnC (set9 v g x0 x1 x2 x3 x4 x5 x6 x7 x8) g val L := by
  have hw := set9_wrote v g x0 x1 x2 x3 x4 x5 x6 x7 x8
  obtain ⟨hl, he | ⟨g', cap', cur, hv, hg', hbk, hc, hm, hss, ht⟩⟩ := h
  · exact ⟨hl, .inl he⟩
  · exact ⟨hl, .inr ⟨g', cap', cur, hv, by omega, by rw [hw.block g' (fun o e => by omega)]; exact hbk, hc, hm, hss, ht⟩⟩

set_option maxRecDepth 100000 in
set_option maxHeartbeats 4000000 in
theorem pattern13_any (s : ByteArray) (q0 : Nat) (hs : s.size ≤ 1000000) (hq0 : q0 ≤ s.size) (w : World) :
    Calls Tryz.prog 65 #[.string s, .int .i64 (q0 : Int)] w fun e w' => Rdp w.heap.size w' (ptl s (s.size + 1) q0 []) e ∧ Below w.heap.size w w' := by
  obtain ⟨i0, hi0, hz0, hz1, hz2⟩ := infoC
  obtain ⟨w1, e1⟩ : ∃ w1, w1 = w.alloc (.cells #[.int .u8 0, .int .u64 0, .int .u64 0, .int .u64 0, .int .u64 0, .slice none 0 0, .int .i64 0, .int .i64 0, .int .i64 0] 80) := ⟨_, rfl⟩
  have s1 : w1.heap.size = w.heap.size + 1 := by rw [e1, al_size]
  have k1 : Gb w w1 w.heap.size := by rw [e1]; exact gb_more (Below.refl _ _) _ _ _ _ _ _ _ _ _ _
  have HP0 : Hid (P13 w w1 w1 s q0 q0 (s.size + 1) [] (.slice none 0 0)) := ⟨k1, Below.refl _ _, ownC_nil _ _, hq0, by omega, by simp, rfl⟩
  have hlt : w.heap.size < w1.heap.size := by omega
  have E1 : Hid _ := e1
  clear e1 s1 k1
  go_enter Tryz.func65, Tryz.ntmps65
  go_wp2_with (first | rw [← E1.out])
  go_loopw [1, 5] (fun vq v wr => ∃ (q fuel : Nat) (out : List (Nat → Bool)), vq = .int .i64 (q : Int) ∧ P13 w w1 wr s q0 q fuel out v) (fun vq _ _ => s.size - (intOf vq).toNat)
  case atStart => exact ⟨q0, s.size + 1, [], rfl, HP0.out⟩
  case round =>
    obtain ⟨q, fuel, out, rfl, hP⟩ := hrel
    have RX : Hid (Gb w wr w.heap.size) := hP.r
    have HB : Hid (Below w1.heap.size w1 wr) := hP.bel
    have HO : Hid (OwnC wr w1.heap.size u5 out) := hP.own
    have hhi := hP.hi
    have hlen := hP.len
    obtain ⟨f', rfl⟩ : ∃ f', fuel = f' + 1 := ⟨fuel - 1, by have := hP.fu; omega⟩
    have hfu := hP.fu
    have heq := hP.eq
    rw [ptl_step s f' q out] at heq
    clear hP HP0
    have hwq : IntKind.i64.wrap ((q : Int) + 1) = (q : Int) + 1 := by rw [IntKind.wrap_i64]; omega
    obtain ⟨ao, cap, rfl, hL⟩ := ownC_lf HO.out (by omega)
    clear hL
    obtain ⟨x0, x1, x2, x3, x4, x5, x6, x7, x8, r0, r1, r2, r3, r4, r5, r6, r7, r8⟩ := RX.out.c
    have fr0 := RX.out.f 0
    have fr1 := RX.out.f 1
    have fr2 := RX.out.f 2
    have fr3 := RX.out.f 3
    have fr4 := RX.out.f 4
    have fr5 := RX.out.f 5
    have fr6 := RX.out.f 6
    have fr7 := RX.out.f 7
    have fr8 := RX.out.f 8
    by_cases hq : q < s.size
    · rw [if_neg (by omega)] at heq
      have hqI : (q : Int) < (s.size : Int) := by omega
      by_cases h34 : byt s q = 34
      · rw [if_pos h34] at heq
        have hi : ∀ w, (Instr.index 9 (.string s) (.int .i64 (q : Int))).run Tryz.prog w = .ok (.int .u8 34) w := fun w => by rw [idx_str s q hq w, h34]; rfl
        by_cases h0 : out.length = 0
        · rw [if_pos h0] at heq
          have HF : Hid _ := heq
          have h0I : ((out.length : Int) == 0) = true := beq_iff_eq.2 (by omega)
          clear heq h0
          go_wp2_with fail
          refine bodyPost_ret (results_got rfl _ _ w.heap.size rfl (RX.out.put _ _ _ _ _ _ _ _ _).1) rfl ?_
          exact ⟨⟨_, _, _, _, _, .slice none 0 0, by rw [HF.out]; rfl, by rw [HF.out]; exact ownC_nil _ _⟩, (RX.out.put _ _ _ _ _ _ _ _ _).2.bel⟩
        · rw [if_neg h0] at heq
          have HF : Hid _ := heq
          have h0I : ((out.length : Int) == 0) = false := beq_eq_false_iff_ne.2 (by omega)
          clear heq
          obtain ⟨m, hm⟩ : ∃ m, out.length = m := ⟨_, rfl⟩
          rw [hm] at h0I h0 hlen HO ⊢
          clear hm
          go_wp2_with fail
          refine bodyPost_ret (results_got rfl _ _ w.heap.size rfl (RX.out.put _ _ _ _ _ _ _ _ _).1) rfl ?_
          exact ⟨⟨_, _, _, _, _, _, by rw [HF.out]; rfl, by rw [HF.out]; exact ownC_set9 (w := w) HO.out hlt _ _ _ _ _ _ _ _ _⟩, (RX.out.put _ _ _ _ _ _ _ _ _).2.bel⟩
      · rw [if_neg h34] at heq
        have hi : ∀ w, (Instr.index 9 (.string s) (.int .i64 (q : Int))).run Tryz.prog w = .ok (.int .u8 ((byt s q : Nat) : Int)) w := fun w => idx_str s q hq w
        have h34I : ((((byt s q : Nat) : Int)) == 34) = false := beq_eq_false_iff_ne.2 (by omega)
        by_cases h64 : out.length = 64
        · rw [if_pos h64] at heq
          have HF : Hid _ := heq
          have h64I : ((out.length : Int) == 64) = true := beq_iff_eq.2 (by omega)
          clear heq h64
          generalize byt s q = y at hi h34I h34
          go_wp2_with fail
          refine bodyPost_ret (results_got rfl _ _ w.heap.size rfl (RX.out.put _ _ _ _ _ _ _ _ _).1) rfl ?_
          exact ⟨⟨_, _, _, _, _, .slice none 0 0, by rw [HF.out]; rfl, by rw [HF.out]; exact ownC_nil _ _⟩, (RX.out.put _ _ _ _ _ _ _ _ _).2.bel⟩
        · rw [if_neg h64] at heq
          have h64I : ((out.length : Int) == 64) = false := beq_eq_false_iff_ne.2 (by omega)
          have CE : Hid _ := fun (v : World) => element13_any s q hs hq v
          generalize byt s q = y at hi h34I h34
          cases hr : elm s q with
          | error r =>
            obtain ⟨p, c⟩ := r
            have hc : ((c : Int) != 0) = true := by
              have := elm_code0 hr
              have h2 : ¬ (c : Int) = 0 := by omega
              simpa using h2
            rw [hr] at CE heq
            simp only at heq
            have HF : Hid _ := heq
            clear heq hr
            go_wp2_with fail
            refine Calls.mono (CE.out wr) ?_; rintro e w3 ⟨⟨b, f, rfl, _⟩, b3⟩
            simp only [gotv, show rpl (.error (p, c) : Rd (Nat → Bool)) = p from rfl, show rcd (.error (p, c) : Rd (Nat → Bool)) = c from rfl]
            obtain ⟨w4, e4⟩ : ∃ w4, w4 = w3.alloc (.cells #[.int .u8 b, .int .u64 ((wd (f) 0 : Nat) : Int), .int .u64 ((wd (f) 1 : Nat) : Int), .int .u64 ((wd (f) 2 : Nat) : Int), .int .u64 ((wd (f) 3 : Nat) : Int), .slice none 0 0, .int .i64 0, .int .i64 (p : Int), .int .i64 (c : Int)] 80) := ⟨_, rfl⟩
            have R4 : Hid (Gb w w4 w.heap.size) := by show Gb _ _ _; rw [e4]; exact (RX.out.grow b3).grow (al_below _ _)
            have q4 : G9 w4 w3.heap.size (.int .u8 b) (.int .u64 ((wd (f) 0 : Nat) : Int)) (.int .u64 ((wd (f) 1 : Nat) : Int)) (.int .u64 ((wd (f) 2 : Nat) : Int)) (.int .u64 ((wd (f) 3 : Nat) : Int)) (.slice none 0 0) (.int .i64 0) (.int .i64 (p : Int)) (.int .i64 (c : Int)) := by rw [e4]; exact g9_made _ _ _ _ _ _ _ _ _ _ _
            have E4 : Hid _ := e4
            clear x0 x1 x2 x3 x4 x5 x6 x7 x8 r0 r1 r2 r3 r4 r5 r6 r7 r8 fr0 fr1 fr2 fr3 fr4 fr5 fr6 fr7 fr8 e4 b3 HO RX
            have RX : Hid (Gb w w4 w.heap.size) := R4.out
            clear R4
            obtain ⟨k0, k1, k2, k3, k4, k5, k6, k7, k8⟩ := q4
            obtain ⟨x0, x1, x2, x3, x4, x5, x6, x7, x8, r0, r1, r2, r3, r4, r5, r6, r7, r8⟩ := RX.out.c
            have fr0 := RX.out.f 0
            have fr1 := RX.out.f 1
            have fr2 := RX.out.f 2
            have fr3 := RX.out.f 3
            have fr4 := RX.out.f 4
            have fr5 := RX.out.f 5
            have fr6 := RX.out.f 6
            have fr7 := RX.out.f 7
            have fr8 := RX.out.f 8
            go_wp2_with (first | rw [← E4.out])
            refine bodyPost_ret (results_got rfl _ _ w.heap.size rfl (RX.out.put _ _ _ _ _ _ _ _ _).1) rfl ?_
            exact ⟨⟨_, _, _, _, _, .slice none 0 0, by rw [HF.out]; rfl, by rw [HF.out]; exact ownC_nil _ _⟩, (RX.out.put _ _ _ _ _ _ _ _ _).2.bel⟩
          | ok r =>
            obtain ⟨g, n⟩ := r
            obtain ⟨n1, n2, _⟩ := elm_next hq hr
            rw [hr] at CE heq
            simp only at heq
            have HQ : Hid _ := heq
            clear heq hr
            go_wp2_with fail
            refine Calls.mono (CE.out wr) ?_; rintro e w3 ⟨⟨b, f, rfl, hfg⟩, b3⟩
            obtain rfl := hfg g n rfl
            simp only [gotv, show rpl (.ok (f, n) : Rd (Nat → Bool)) = n from rfl, show rcd (.ok (f, n) : Rd (Nat → Bool)) = 0 from rfl]
            obtain ⟨w4, e4⟩ : ∃ w4, w4 = w3.alloc (.cells #[.int .u8 b, .int .u64 ((wd (f) 0 : Nat) : Int), .int .u64 ((wd (f) 1 : Nat) : Int), .int .u64 ((wd (f) 2 : Nat) : Int), .int .u64 ((wd (f) 3 : Nat) : Int), .slice none 0 0, .int .i64 0, .int .i64 (n : Int), .int .i64 0] 80) := ⟨_, rfl⟩
            have b34 : Below w3.heap.size w3 w4 := by rw [e4]; exact al_below _ _
            have R4 : Hid (Gb w w4 w.heap.size) := (RX.out.grow b3).grow b34
            have B4 : Below w1.heap.size w1 w4 := HB.out.trans ((b3.trans (b34.mono b3.size)).mono HB.out.size)
            have O4 : w4.ownsRow w1.heap.size 67 4 (.slice ao out.length cap) out.length (cls out) := owns_below (owns_below HO.out b3 (Nat.le_refl _)) b34 (Nat.le_refl _)
            have HB4 : Hid (Below w1.heap.size w1 w4) := B4
            have hsz : w1.heap.size ≤ w4.heap.size := B4.size
            have q4 : G9 w4 w3.heap.size (.int .u8 b) (.int .u64 ((wd (f) 0 : Nat) : Int)) (.int .u64 ((wd (f) 1 : Nat) : Int)) (.int .u64 ((wd (f) 2 : Nat) : Int)) (.int .u64 ((wd (f) 3 : Nat) : Int)) (.slice none 0 0) (.int .i64 0) (.int .i64 (n : Int)) (.int .i64 0) := by rw [e4]; exact g9_made _ _ _ _ _ _ _ _ _ _ _
            have HNE : Hid (∀ row, (Value.slice ao out.length cap).ownBlock = some row → w3.heap.size ≠ row) := fun row hrow => by
              obtain ⟨_, ⟨e, _⟩ | ⟨g', cap', cur, hv, hg', hbk, _⟩⟩ := HO.out
              · rw [e] at hrow; simp [Value.ownBlock] at hrow
              · rw [hv] at hrow
                simp [Value.ownBlock] at hrow
                have hl : g' < wr.heap.size := by
                  rcases Nat.lt_or_ge g' wr.heap.size with h0 | h0
                  · exact h0
                  · rw [Array.getElem?_eq_none h0] at hbk; cases hbk
                have := b3.size
                omega
            have hl3 : w3.heap.size < w4.heap.size := by rw [e4, al_size]; omega
            have E4 : Hid _ := e4
            have HG9 : Hid (G9 w4 w3.heap.size (.int .u8 b) (.int .u64 ((wd (f) 0 : Nat) : Int)) (.int .u64 ((wd (f) 1 : Nat) : Int)) (.int .u64 ((wd (f) 2 : Nat) : Int)) (.int .u64 ((wd (f) 3 : Nat) : Int)) (.slice none 0 0) (.int .i64 0) (.int .i64 (n : Int)) (.int .i64 0)) := q4
            clear x0 x1 x2 x3 x4 x5 x6 x7 x8 r0 r1 r2 r3 r4 r5 r6 r7 r8 fr0 fr1 fr2 fr3 fr4 fr5 fr6 fr7 fr8 e4 b3 b34 B4 HO RX HB
            obtain ⟨k0, k1, k2, k3, k4, k5, k6, k7, k8⟩ := q4
            go_wp2_with (first | rw [← E4.out] | (at_builtin; refine wpList_append_own _ rfl _ _ 32 rfl w1.heap.size 67 i0 (.agg #[.int .u64 0, .int .u64 0, .int .u64 0, .int .u64 0]) 4 32 Tryz.underlying32 hi0 hz0 hz1 hz2 rfl (by decide) _ _ _ rfl (O4.alloc _) ⟨w4.heap.size, 0, none⟩ 1 1 (cls [f]) rfl rfl ?c1 ?c2 ?c3 ?c4 ?c5 ?_))
            case c1 => first | exact new4 _ _ | exact fun _ _ h => h
            case c2 => exact plain4 _
            case c3 => unfold maxLen; omega
            case c4 => omega
            case c5 => first | omega | (simp; omega) | (show _ ≤ (w4.heap.push _).size; simp; omega)
            · intro v' w5 hown' hgrow _
              have HR : Hid (Below w1.heap.size w1 w5) := grow_below hsz HB4.out O4 hgrow
              have HO5 : Hid (OwnC w5 w1.heap.size v' (out ++ [f])) := by show OwnC _ _ _ _; unfold OwnC; rw [cls_append, List.length_append]; exact hown'
              have far : ∀ b t, b < w4.heap.size → (∀ row, (Value.slice ao out.length cap).ownBlock = some row → b ≠ row) → w5.cell? ⟨b, t, none⟩ = w4.cell? ⟨b, t, none⟩ ∧ w5.frozen? ⟨b, t, none⟩ = w4.frozen? ⟨b, t, none⟩ := fun b t hb hne => by
                have hlt' : b < (w4.alloc (.cells #[.int .u64 ((wd (f) 0 : Nat) : Int), .int .u64 ((wd (f) 1 : Nat) : Int), .int .u64 ((wd (f) 2 : Nat) : Int), .int .u64 ((wd (f) 3 : Nat) : Int)] 67)).heap.size := by rw [al_size]; omega
                have hne' : some b ≠ (Value.slice ao out.length cap).ownBlock := fun e => hne b e.symm rfl
                have bl : Below w4.heap.size w4 (w4.alloc (.cells #[.int .u64 ((wd (f) 0 : Nat) : Int), .int .u64 ((wd (f) 1 : Nat) : Int), .int .u64 ((wd (f) 2 : Nat) : Int), .int .u64 ((wd (f) 3 : Nat) : Int)] 67)) := al_below _ _
                exact ⟨(hgrow.cell_far ⟨b, t, none⟩ hlt' hne').trans (bl.cell (p := ⟨b, t, none⟩) hb), (hgrow.frozen_far ⟨b, t, none⟩ hlt' hne').trans (bl.frozen (p := ⟨b, t, none⟩) hb)⟩
              have k7' : w5.cell? ⟨w3.heap.size, 7, none⟩ = some (.int .i64 (n : Int)) := (far _ 7 hl3 HNE.out).1.trans HG9.out.c7
              have R5 : Hid (Gb w w5 w.heap.size) := by
                have hr : ∀ row, (Value.slice ao out.length cap).ownBlock = some row → w.heap.size ≠ row := fun row hrow => by
                  obtain ⟨_, ⟨e, _⟩ | ⟨g', cap', cur, hv, hg', _⟩⟩ := O4
                  · rw [e] at hrow; simp [Value.ownBlock] at hrow
                  · rw [hv] at hrow; simp [Value.ownBlock] at hrow; omega
                obtain ⟨v0, v1, v2, v3, v4, v5, v6, v7, v8, hc⟩ := R4.out.c
                have hlw : w.heap.size < w4.heap.size := by omega
                have hBW : Below w.heap.size w w1 := by rw [E1.out]; exact al_below _ _
                exact ⟨hBW.trans (HR.out.mono (by omega)), Nat.le_refl _, by have := HR.out.size; omega, ⟨v0, v1, v2, v3, v4, v5, v6, v7, v8, (far _ 0 hlw hr).1.trans hc.c0, (far _ 1 hlw hr).1.trans hc.c1, (far _ 2 hlw hr).1.trans hc.c2, (far _ 3 hlw hr).1.trans hc.c3, (far _ 4 hlw hr).1.trans hc.c4, (far _ 5 hlw hr).1.trans hc.c5, (far _ 6 hlw hr).1.trans hc.c6, (far _ 7 hlw hr).1.trans hc.c7, (far _ 8 hlw hr).1.trans hc.c8⟩, fun t => by rw [(far _ t hlw hr).2]; exact R4.out.f t⟩
              clear hown' hgrow O4 HB4 E4 k0 k1 k2 k3 k4 k5 k6 k7 k8 far
              go_wp2_with fail
              go_roundw
              case rel => exact ⟨n, f', out ++ [f], rfl, ⟨R5.out, HR.out, HO5.out, n2, by omega, by rw [List.length_append, List.length_singleton]; omega, HQ.out⟩⟩
              case measure => simp [intOf]; omega
    · obtain rfl : q = s.size := by omega
      rw [if_pos (Nat.le_refl _)] at heq
      have HF : Hid _ := heq
      clear heq
      go_wp2_with fail
      refine bodyPost_ret (results_got rfl _ _ w.heap.size rfl (RX.out.put _ _ _ _ _ _ _ _ _).1) rfl ?_
      exact ⟨⟨_, _, _, _, _, .slice none 0 0, by rw [HF.out]; rfl, by rw [HF.out]; exact ownC_nil _ _⟩, (RX.out.put _ _ _ _ _ _ _ _ _).2.bel⟩

end Cls
end Go.Proofs.YtbnnobeahliffaaGreatDoor
