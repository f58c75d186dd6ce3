/- Contracts of token.right and token.Print. (Written by mktk12.py.) -/
import Derived.Test.YtljahelbbafhlaaDoorTkPr1
import Derived.Test.YtljahelbbafhlaaDoorTkWro
set_option linter.unusedVariables false
namespace Go.Proofs.YtljahelbbafhlaaDoor
open Go.RowKit
namespace Cls

theorem some_if {p : Prop} [Decidable p] {L : List Nat} (h : p) : (if p then some L else none : Option (List Nat)).isSome = true := by rw [if_pos h]; rfl

theorem none_if {p : Prop} [Decidable p] {L : List Nat} (h : ¬ p) : (if p then some L else none : Option (List Nat)).isSome = false := by rw [if_neg h]; rfl

set_option maxRecDepth 100000 in
set_option maxHeartbeats 4000000 in
theorem right13_any (x : Tv) (w : World) (hx : x.ok w) :
    Calls Tryd.prog 31 #[x.val] w fun e w' => e = .returned (.bool (prI x.i).isSome) ∧ Below w.heap.size w w' := by
  obtain ⟨⟨xk, xa, xn, xp⟩, xo, xc⟩ := x
  unfold Tv.ok at hx
  simp only at hx
  unfold Tv.val
  simp only
  obtain ⟨w1, e1⟩ : ∃ w1, w1 = w.alloc (.cells #[.int .i64 xk, .int .i64 xa, .int .i64 xn, .slice xo xp.length xc] 40) := ⟨_, rfl⟩
  have q1 : K4 w1 w.heap.size (.int .i64 xk) (.int .i64 xa) (.int .i64 xn) (.slice xo xp.length xc) := by rw [e1]; exact k4_new _ _ _ _ _ _
  have b1 : Below w.heap.size w w1 := by rw [e1]; exact al_below _ _
  have HX : Hid (Lf w1 xo xp.length (at' xp)) := hx.grow b1
  have B1 : Hid (Below w.heap.size w w1) := b1
  have E1 : Hid _ := e1
  clear e1 b1 hx
  by_cases hout : xk < 1 ∨ 8 < xk
  · have HF : Hid ((prI ⟨xk, xa, xn, xp⟩).isSome = false) := by show _ = _; rw [prI_out hout]; rfl
    have g1 : (xk == 1) = false := beq_eq_false_iff_ne.2 (by omega)
    have g2 : (xk == 2) = false := beq_eq_false_iff_ne.2 (by omega)
    have g3 : (xk == 3) = false := beq_eq_false_iff_ne.2 (by omega)
    have g4 : (xk == 4) = false := beq_eq_false_iff_ne.2 (by omega)
    have g5 : (xk == 5) = false := beq_eq_false_iff_ne.2 (by omega)
    have g6 : (xk == 6) = false := beq_eq_false_iff_ne.2 (by omega)
    have g7 : (xk == 7) = false := beq_eq_false_iff_ne.2 (by omega)
    have g8 : (xk == 8) = false := beq_eq_false_iff_ne.2 (by omega)
    obtain ⟨a0, a1, a2, a3⟩ := q1
    clear hout
    go_enter Tryd.func31, Tryd.ntmps31
    go_wp2_with (first | rw [← E1.out])
    go_ret
    exact ⟨by rw [HF.out]; rfl, B1.out⟩
  · have hk : xk = 1 ∨ xk = 2 ∨ xk = 3 ∨ xk = 4 ∨ xk = 5 ∨ xk = 6 ∨ xk = 7 ∨ xk = 8 := by omega
    clear hout
    obtain ⟨l, hl⟩ : ∃ l, xp.length = l := ⟨_, rfl⟩
    have HL : Hid (xp.length = l) := hl
    rcases hk with rfl | rfl | rfl | rfl | rfl | rfl | rfl | rfl
    · by_cases hn : xn = 0 ∧ xp.length = 0
      · have HF : Hid ((prI ⟨1, xa, xn, xp⟩).isSome = true) := by show _ = _; rw [prI_sign (show (1 : Int) ≤ 1 by decide) (show (1 : Int) ≤ 5 by decide)]; exact some_if hn
        obtain ⟨rfl, hp⟩ := hn
        rw [hp] at q1 E1 HX ⊢
        obtain ⟨a0, a1, a2, a3⟩ := q1
        clear hl HL hp
        go_enter Tryd.func31, Tryd.ntmps31
        go_wp2_with (first | rw [← E1.out])
        go_ret
        exact ⟨by rw [HF.out]; rfl, B1.out⟩
      · have HF : Hid ((prI ⟨1, xa, xn, xp⟩).isSome = false) := by show _ = _; rw [prI_sign (show (1 : Int) ≤ 1 by decide) (show (1 : Int) ≤ 5 by decide)]; exact none_if hn
        rw [hl] at q1 E1 HX hn ⊢
        obtain ⟨a0, a1, a2, a3⟩ := q1
        by_cases h0 : xn = 0
        · have hl0 : ((l : Int) == 0) = false := beq_eq_false_iff_ne.2 (by omega)
          have h0I : (xn == 0) = true := beq_iff_eq.2 h0
          clear hn h0
          go_enter Tryd.func31, Tryd.ntmps31
          go_wp2_with (first | rw [← E1.out])
          go_ret
          exact ⟨by rw [HF.out]; rfl, B1.out⟩
        · have h0I : (xn == 0) = false := beq_eq_false_iff_ne.2 h0
          clear hn h0
          go_enter Tryd.func31, Tryd.ntmps31
          go_wp2_with (first | rw [← E1.out])
          go_ret
          exact ⟨by rw [HF.out]; rfl, B1.out⟩
    · by_cases hn : xn = 0 ∧ xp.length = 0
      · have HF : Hid ((prI ⟨2, xa, xn, xp⟩).isSome = true) := by show _ = _; rw [prI_sign (show (1 : Int) ≤ 2 by decide) (show (2 : Int) ≤ 5 by decide)]; exact some_if hn
        obtain ⟨rfl, hp⟩ := hn
        rw [hp] at q1 E1 HX ⊢
        obtain ⟨a0, a1, a2, a3⟩ := q1
        clear hl HL hp
        go_enter Tryd.func31, Tryd.ntmps31
        go_wp2_with (first | rw [← E1.out])
        go_ret
        exact ⟨by rw [HF.out]; rfl, B1.out⟩
      · have HF : Hid ((prI ⟨2, xa, xn, xp⟩).isSome = false) := by show _ = _; rw [prI_sign (show (1 : Int) ≤ 2 by decide) (show (2 : Int) ≤ 5 by decide)]; exact none_if hn
        rw [hl] at q1 E1 HX hn ⊢
        obtain ⟨a0, a1, a2, a3⟩ := q1
        by_cases h0 : xn = 0
        · have hl0 : ((l : Int) == 0) = false := beq_eq_false_iff_ne.2 (by omega)
          have h0I : (xn == 0) = true := beq_iff_eq.2 h0
          clear hn h0
          go_enter Tryd.func31, Tryd.ntmps31
          go_wp2_with (first | rw [← E1.out])
          go_ret
          exact ⟨by rw [HF.out]; rfl, B1.out⟩
        · have h0I : (xn == 0) = false := beq_eq_false_iff_ne.2 h0
          clear hn h0
          go_enter Tryd.func31, Tryd.ntmps31
          go_wp2_with (first | rw [← E1.out])
          go_ret
          exact ⟨by rw [HF.out]; rfl, B1.out⟩
    · by_cases hn : xn = 0 ∧ xp.length = 0
      · have HF : Hid ((prI ⟨3, xa, xn, xp⟩).isSome = true) := by show _ = _; rw [prI_sign (show (1 : Int) ≤ 3 by decide) (show (3 : Int) ≤ 5 by decide)]; exact some_if hn
        obtain ⟨rfl, hp⟩ := hn
        rw [hp] at q1 E1 HX ⊢
        obtain ⟨a0, a1, a2, a3⟩ := q1
        clear hl HL hp
        go_enter Tryd.func31, Tryd.ntmps31
        go_wp2_with (first | rw [← E1.out])
        go_ret
        exact ⟨by rw [HF.out]; rfl, B1.out⟩
      · have HF : Hid ((prI ⟨3, xa, xn, xp⟩).isSome = false) := by show _ = _; rw [prI_sign (show (1 : Int) ≤ 3 by decide) (show (3 : Int) ≤ 5 by decide)]; exact none_if hn
        rw [hl] at q1 E1 HX hn ⊢
        obtain ⟨a0, a1, a2, a3⟩ := q1
        by_cases h0 : xn = 0
        · have hl0 : ((l : Int) == 0) = false := beq_eq_false_iff_ne.2 (by omega)
          have h0I : (xn == 0) = true := beq_iff_eq.2 h0
          clear hn h0
          go_enter Tryd.func31, Tryd.ntmps31
          go_wp2_with (first | rw [← E1.out])
          go_ret
          exact ⟨by rw [HF.out]; rfl, B1.out⟩
        · have h0I : (xn == 0) = false := beq_eq_false_iff_ne.2 h0
          clear hn h0
          go_enter Tryd.func31, Tryd.ntmps31
          go_wp2_with (first | rw [← E1.out])
          go_ret
          exact ⟨by rw [HF.out]; rfl, B1.out⟩
    · by_cases hn : xn = 0 ∧ xp.length = 0
      · have HF : Hid ((prI ⟨4, xa, xn, xp⟩).isSome = true) := by show _ = _; rw [prI_sign (show (1 : Int) ≤ 4 by decide) (show (4 : Int) ≤ 5 by decide)]; exact some_if hn
        obtain ⟨rfl, hp⟩ := hn
        rw [hp] at q1 E1 HX ⊢
        obtain ⟨a0, a1, a2, a3⟩ := q1
        clear hl HL hp
        go_enter Tryd.func31, Tryd.ntmps31
        go_wp2_with (first | rw [← E1.out])
        go_ret
        exact ⟨by rw [HF.out]; rfl, B1.out⟩
      · have HF : Hid ((prI ⟨4, xa, xn, xp⟩).isSome = false) := by show _ = _; rw [prI_sign (show (1 : Int) ≤ 4 by decide) (show (4 : Int) ≤ 5 by decide)]; exact none_if hn
        rw [hl] at q1 E1 HX hn ⊢
        obtain ⟨a0, a1, a2, a3⟩ := q1
        by_cases h0 : xn = 0
        · have hl0 : ((l : Int) == 0) = false := beq_eq_false_iff_ne.2 (by omega)
          have h0I : (xn == 0) = true := beq_iff_eq.2 h0
          clear hn h0
          go_enter Tryd.func31, Tryd.ntmps31
          go_wp2_with (first | rw [← E1.out])
          go_ret
          exact ⟨by rw [HF.out]; rfl, B1.out⟩
        · have h0I : (xn == 0) = false := beq_eq_false_iff_ne.2 h0
          clear hn h0
          go_enter Tryd.func31, Tryd.ntmps31
          go_wp2_with (first | rw [← E1.out])
          go_ret
          exact ⟨by rw [HF.out]; rfl, B1.out⟩
    · by_cases hn : xn = 0 ∧ xp.length = 0
      · have HF : Hid ((prI ⟨5, xa, xn, xp⟩).isSome = true) := by show _ = _; rw [prI_sign (show (1 : Int) ≤ 5 by decide) (show (5 : Int) ≤ 5 by decide)]; exact some_if hn
        obtain ⟨rfl, hp⟩ := hn
        rw [hp] at q1 E1 HX ⊢
        obtain ⟨a0, a1, a2, a3⟩ := q1
        clear hl HL hp
        go_enter Tryd.func31, Tryd.ntmps31
        go_wp2_with (first | rw [← E1.out])
        go_ret
        exact ⟨by rw [HF.out]; rfl, B1.out⟩
      · have HF : Hid ((prI ⟨5, xa, xn, xp⟩).isSome = false) := by show _ = _; rw [prI_sign (show (1 : Int) ≤ 5 by decide) (show (5 : Int) ≤ 5 by decide)]; exact none_if hn
        rw [hl] at q1 E1 HX hn ⊢
        obtain ⟨a0, a1, a2, a3⟩ := q1
        by_cases h0 : xn = 0
        · have hl0 : ((l : Int) == 0) = false := beq_eq_false_iff_ne.2 (by omega)
          have h0I : (xn == 0) = true := beq_iff_eq.2 h0
          clear hn h0
          go_enter Tryd.func31, Tryd.ntmps31
          go_wp2_with (first | rw [← E1.out])
          go_ret
          exact ⟨by rw [HF.out]; rfl, B1.out⟩
        · have h0I : (xn == 0) = false := beq_eq_false_iff_ne.2 h0
          clear hn h0
          go_enter Tryd.func31, Tryd.ntmps31
          go_wp2_with (first | rw [← E1.out])
          go_ret
          exact ⟨by rw [HF.out]; rfl, B1.out⟩
    · by_cases hn : 0 ≤ xn ∧ xn ≤ 1000000 ∧ xp.length = 0
      · have HF : Hid ((prI ⟨6, xa, xn, xp⟩).isSome = true) := by show _ = _; rw [prI_num (.inl rfl)]; exact some_if hn
        obtain ⟨h1, h2, hp⟩ := hn
        rw [hp] at q1 E1 HX ⊢
        obtain ⟨a0, a1, a2, a3⟩ := q1
        clear hl HL hp
        go_enter Tryd.func31, Tryd.ntmps31
        go_wp2_with (first | rw [← E1.out])
        go_ret
        exact ⟨by rw [HF.out]; rfl, B1.out⟩
      · have HF : Hid ((prI ⟨6, xa, xn, xp⟩).isSome = false) := by show _ = _; rw [prI_num (.inl rfl)]; exact none_if hn
        rw [hl] at q1 E1 HX hn ⊢
        obtain ⟨a0, a1, a2, a3⟩ := q1
        by_cases h1 : 0 ≤ xn
        · by_cases h2 : xn ≤ 1000000
          · have hl0 : ((l : Int) == 0) = false := beq_eq_false_iff_ne.2 (by omega)
            clear hn
            go_enter Tryd.func31, Tryd.ntmps31
            go_wp2_with (first | rw [← E1.out])
            go_ret
            exact ⟨by rw [HF.out]; rfl, B1.out⟩
          · clear hn
            go_enter Tryd.func31, Tryd.ntmps31
            go_wp2_with (first | rw [← E1.out])
            go_ret
            exact ⟨by rw [HF.out]; rfl, B1.out⟩
        · clear hn
          go_enter Tryd.func31, Tryd.ntmps31
          go_wp2_with (first | rw [← E1.out])
          go_ret
          exact ⟨by rw [HF.out]; rfl, B1.out⟩
    · by_cases hn : 0 ≤ xn ∧ xn ≤ 1000000 ∧ xp.length = 0
      · have HF : Hid ((prI ⟨7, xa, xn, xp⟩).isSome = true) := by show _ = _; rw [prI_num (.inr rfl)]; exact some_if hn
        obtain ⟨h1, h2, hp⟩ := hn
        rw [hp] at q1 E1 HX ⊢
        obtain ⟨a0, a1, a2, a3⟩ := q1
        clear hl HL hp
        go_enter Tryd.func31, Tryd.ntmps31
        go_wp2_with (first | rw [← E1.out])
        go_ret
        exact ⟨by rw [HF.out]; rfl, B1.out⟩
      · have HF : Hid ((prI ⟨7, xa, xn, xp⟩).isSome = false) := by show _ = _; rw [prI_num (.inr rfl)]; exact none_if hn
        rw [hl] at q1 E1 HX hn ⊢
        obtain ⟨a0, a1, a2, a3⟩ := q1
        by_cases h1 : 0 ≤ xn
        · by_cases h2 : xn ≤ 1000000
          · have hl0 : ((l : Int) == 0) = false := beq_eq_false_iff_ne.2 (by omega)
            clear hn
            go_enter Tryd.func31, Tryd.ntmps31
            go_wp2_with (first | rw [← E1.out])
            go_ret
            exact ⟨by rw [HF.out]; rfl, B1.out⟩
          · clear hn
            go_enter Tryd.func31, Tryd.ntmps31
            go_wp2_with (first | rw [← E1.out])
            go_ret
            exact ⟨by rw [HF.out]; rfl, B1.out⟩
        · clear hn
          go_enter Tryd.func31, Tryd.ntmps31
          go_wp2_with (first | rw [← E1.out])
          go_ret
          exact ⟨by rw [HF.out]; rfl, B1.out⟩
    · have HF : Hid ((prI ⟨8, xa, xn, xp⟩).isSome = (decide (xn = 0) && rgt (at' xp) xp.length 0)) := by
        show _ = _
        rw [prI_pat rfl]
        by_cases h0 : xn = 0
        · cases hr : rgt (at' xp) xp.length 0 with
          | true => rw [some_if ⟨h0, rfl⟩, decide_eq_true h0]; rfl
          | false => rw [none_if (by rintro ⟨_, h⟩; cases h), decide_eq_true h0]; rfl
        · rw [none_if (fun h => h0 h.1), decide_eq_false h0]; rfl
      obtain ⟨a0, a1, a2, a3⟩ := q1
      by_cases h0 : xn = 0
      · subst h0
        have CR : Hid _ := right_any (at' xp) xp.length xc xo 0 w1 HX.out
        have HF2 : Hid ((prI ⟨8, xa, 0, xp⟩).isSome = rgt (at' xp) xp.length 0) := by show _ = _; rw [HF.out]; rfl
        rw [hl] at CR HF2 a3 E1 ⊢
        generalize rgt (at' xp) l 0 = r at *
        go_enter Tryd.func31, Tryd.ntmps31
        go_wp2_with (first | rw [← E1.out])
        refine Calls.mono CR.out ?_; rintro e w2 ⟨rfl, b2⟩
        have B2 : Hid (Below w.heap.size w w2) := B1.out.trans (b2.mono B1.out.size)
        clear b2
        go_wp2_with fail
        go_ret
        exact ⟨by rw [HF2.out]; rfl, B2.out⟩
      · have h0I : (xn == 0) = false := beq_eq_false_iff_ne.2 h0
        have HF2 : Hid ((prI ⟨8, xa, xn, xp⟩).isSome = false) := by show _ = _; rw [HF.out, decide_eq_false h0]; rfl
        rw [hl] at a3 E1 ⊢
        clear h0 HF
        go_enter Tryd.func31, Tryd.ntmps31
        go_wp2_with (first | rw [← E1.out])
        go_ret
        exact ⟨by rw [HF2.out]; rfl, B1.out⟩

/-- A token in a box on the way; the tables. -/
structure Pw (w wk : World) (xk xa xn : Int) (xo : Option Addr) (xp : List (Nat → Bool)) (xc : Nat) : Prop where
  bel : Below w.heap.size w wk
  k : K4 wk w.heap.size (.int .i64 xk) (.int .i64 xa) (.int .i64 xn) (.slice xo xp.length xc)
  lf : Lf wk xo xp.length (at' xp)
  tb : TabB wk
  tx : TabX wk

theorem Pw.grow {w wk v : World} {xk xa xn : Int} {xo : Option Addr} {xp : List (Nat → Bool)} {xc : Nat} (h : Pw w wk xk xa xn xo xp xc) (b : Below wk.heap.size wk v) : Pw w v xk xa xn xo xp xc :=
  ⟨h.bel.trans (b.mono h.bel.size), h.k.keep b, h.lf.grow b, h.tb.grow b, h.tx.grow b⟩

theorem sg_cut (k : Nat) (h1 : 1 ≤ k) (h8 : k ≤ 8) : (⟨#[40, 41, 38, 124, 33, 62, 126, 34]⟩ : ByteArray).extract (k - 1) k = tbs [sg8 k] := by
  have h := knT_cut (k - 1) (by omega)
  rw [show k - 1 + 1 = k by omega] at h
  exact h

set_option maxRecDepth 100000 in
set_option maxHeartbeats 4000000 in
theorem print_any (x : Tv) (w : World) (hx : x.ok w) (hT : TabB w) (hX : TabX w) :
    Calls Tryd.prog 16 #[x.val] w fun e w' => Rdx (prI x.i) e ∧ Below w.heap.size w w' := by
  obtain ⟨⟨xk, xa, xn, xp⟩, xo, xc⟩ := x
  have CR : Hid _ := fun (v : World) (hv : Below w.heap.size w v) => right13_any ⟨⟨xk, xa, xn, xp⟩, xo, xc⟩ v (hx.grow hv)
  unfold Tv.ok at hx
  simp only at hx
  unfold Tv.val at CR ⊢
  simp only at CR ⊢
  obtain ⟨w1, e1⟩ : ∃ w1, w1 = w.alloc (.cells #[.int .i64 xk, .int .i64 xa, .int .i64 xn, .slice xo xp.length xc] 40) := ⟨_, rfl⟩
  have b1 : Below w.heap.size w w1 := by rw [e1]; exact al_below _ _
  have q1 : K4 w1 w.heap.size (.int .i64 xk) (.int .i64 xa) (.int .i64 xn) (.slice xo xp.length xc) := by rw [e1]; exact k4_new _ _ _ _ _ _
  have D1 : Hid (Pw w w1 xk xa xn xo xp xc) := ⟨b1, q1, hx.grow b1, hT.grow b1, hX.grow b1⟩
  have E1 : Hid _ := e1
  have C1 : Hid _ := CR.out w1 b1
  clear e1 b1 q1 hx hT hX CR
  obtain ⟨a0, a1, a2, a3⟩ := D1.out.k
  cases hp : prI ⟨xk, xa, xn, xp⟩ with
  | none =>
    rw [hp] at C1
    go_enter Tryd.func16, Tryd.ntmps16
    go_wp2_with (first | rw [← E1.out])
    refine Calls.mono C1.out ?_; rintro e w2 ⟨rfl, b2⟩
    have D2 : Hid (Pw w w2 xk xa xn xo xp xc) := D1.out.grow b2
    clear b2
    go_wp2_with fail
    refine bodyPost_ret (results_tmp2 rfl _ _ _) rfl ?_
    exact ⟨rfl, D2.out.bel⟩
  | some T0 =>
    rw [hp] at C1
    have hk1 : 1 ≤ xk := by
      rcases Int.lt_or_le xk 1 with h | h
      · rw [prI_out (.inl h)] at hp; cases hp
      · exact h
    have hk8 : xk ≤ 8 := by
      rcases Int.lt_or_le 8 xk with h | h
      · rw [prI_out (.inr h)] at hp; cases hp
      · exact h
    obtain ⟨k, rfl⟩ : ∃ k : Nat, xk = (k : Int) := ⟨xk.toNat, by omega⟩
    have hcut := sg_cut k (by omega) (by omega)
    have hn1 : ((k : Int) - 1).toNat = k - 1 := by omega
    have hn2 : ((k : Int)).toNat = k := by omega
    have hwk : IntKind.i64.wrap ((k : Int) - 1) = (k : Int) - 1 := by rw [IntKind.wrap_i64]; omega
    have hb1 : (0 : Int) ≤ (k : Int) - 1 := by omega
    have hb2 : (k : Int) - 1 ≤ (k : Int) := by omega
    have hb3 : (k : Int) ≤ 8 := by omega
    by_cases h67 : k = 6 ∨ k = 7
    · rw [prI_num (show (k : Int) = 6 ∨ (k : Int) = 7 by omega)] at hp
      simp only [Int.toNat_natCast] at hp
      by_cases hc : 0 ≤ xn ∧ xn ≤ 1000000 ∧ xp.length = 0
      · rw [if_pos hc] at hp
        obtain ⟨n, rfl⟩ : ∃ n : Nat, xn = (n : Int) := ⟨xn.toNat, by omega⟩
        have HT0 : Hid (T0 = [sg8 k] ++ dgs n) := by
          show _ = _
          have := Option.some.inj hp
          rw [← this]
          simp
        have hd7 := dgs_le7 (show n ≤ 1000000 by omega)
        have AD := add_tbs [sg8 k] (dgs n) (by simp; omega)
        have CI : Hid _ := fun (v : World) (hv : TabX v) => itoa_any n (by omega) v hv
        have HFT : Hid (tbs T0 = tbs ([sg8 k] ++ dgs n)) := by show _ = _; rw [HT0.out]
        have HLE : Hid _ := hcut
        have hks : (((k : Int) == 6) = true) ∨ (((k : Int) == 6) = false ∧ ((k : Int) == 7) = true) := by
          rcases h67 with h | h
          · exact .inl (beq_iff_eq.2 (by omega))
          · exact .inr ⟨beq_eq_false_iff_ne.2 (by omega), beq_iff_eq.2 (by omega)⟩
        generalize tbs ([sg8 k] ++ dgs n) = t3 at *
        generalize tbs (dgs n) = t2 at *
        generalize tbs [sg8 k] = t1 at *
        clear hp HT0 hc h67
        rcases hks with h6I | ⟨h6I, h7I⟩
        all_goals
          go_enter Tryd.func16, Tryd.ntmps16
          go_wp2_with (first | rw [← E1.out])
          refine Calls.mono C1.out ?_; rintro e w2 ⟨rfl, b2⟩
          have D2 : Hid (Pw w w2 (k : Int) xa (n : Int) xo xp xc) := D1.out.grow b2
          clear b2 a0 a1 a2 a3
          obtain ⟨a0, a1, a2, a3⟩ := D2.out.k
          go_wp2_with (first | rw [hn1] | rw [hn2] | rw [hcut])
          refine Calls.mono (CI.out w2 D2.out.tx) ?_; rintro e w3 ⟨rfl, b3⟩
          have D3 : Hid (Pw w w3 (k : Int) xa (n : Int) xo xp xc) := D2.out.grow b3
          clear b3
          go_wp2_with fail
          refine bodyPost_ret (results_tmp2 rfl _ _ _) rfl ?_
          exact ⟨by unfold Rdx; show _ = Ending.returned (.tuple #[.string (tbs T0), .bool true]); rw [HFT.out]; rfl, D3.out.bel⟩
      · rw [if_neg hc] at hp
        cases hp
    · have h6I : ((k : Int) == 6) = false := beq_eq_false_iff_ne.2 (by omega)
      have h7I : ((k : Int) == 7) = false := beq_eq_false_iff_ne.2 (by omega)
      by_cases h8 : k = 8
      · rw [prI_pat (show (k : Int) = 8 by omega)] at hp
        simp only at hp
        have h8I : ((k : Int) == 8) = true := beq_iff_eq.2 (by omega)
        by_cases hc : xn = 0 ∧ rgt (at' xp) xp.length 0 = true
        · rw [if_pos hc] at hp
          have hlen := (rgt_len hc.2)
          have HT0 : Hid (T0 = (34 :: eTx xp) ++ [34]) := by
            show _ = _
            have := Option.some.inj hp
            rw [← this]
            simp
          have HSG : Hid (tbs [sg8 k] = tbs (34 :: eTx (xp.take 0))) := by show _ = _; rw [h8]; rfl
          obtain ⟨n, hn⟩ : ∃ n, xp.length = n := ⟨_, rfl⟩
          have HN : Hid (xp.length = n) := hn
          have hn64 : n ≤ 64 := by omega
          clear hp hc h8 h67 hlen
          obtain ⟨t1, ht1⟩ : ∃ t1, tbs [sg8 k] = t1 := ⟨_, rfl⟩
          have HT1 : Hid _ := ht1
          rw [ht1] at hcut
          clear ht1
          rw [hn] at a3 E1 C1 ⊢
          clear hn
          go_enter Tryd.func16, Tryd.ntmps16
          go_wp2_with (first | rw [← E1.out])
          refine Calls.mono C1.out ?_; rintro e w2 ⟨rfl, b2⟩
          have D2 : Hid (Pw w w2 (k : Int) xa xn xo xp xc) := D1.out.grow b2
          clear b2 a0 a1 a2 a3
          obtain ⟨a0, a1, a2, a3⟩ := D2.out.k
          rw [HN.out] at a3
          go_wp2_with (first | rw [hn1] | rw [hn2] | rw [hcut])
          go_loopw [4, 33] (fun vt vk wr => Pw w wr k xa xn xo xp xc ∧ ∃ j : Nat, j ≤ n ∧ vk = .int .i64 (j : Int) ∧ vt = .string (tbs (34 :: eTx (xp.take j)))) (fun _ vk _ => n - (intOf vk).toNat)
          case atStart => exact ⟨D2.out, 0, Nat.zero_le _, rfl, by rw [← HSG.out, HT1.out]⟩
          case round =>
            obtain ⟨hD, j, hj, rfl, rfl⟩ := hrel
            have DR : Hid (Pw w wr k xa xn xo xp xc) := hD
            have hle := eTx_le (xp.take j)
            rw [List.length_take] at hle
            clear hD a0 a1 a2 a3
            by_cases hjn : j < n
            · have hjI : (j : Int) < (n : Int) := by omega
              have hjL : j < xp.length := by rw [HN.out]; exact hjn
              obtain ⟨g, o, rfl, _, hC⟩ := DR.out.lf.lies (by omega)
              obtain ⟨c0, c1, c2, c3⟩ := hC.four hjL
              obtain ⟨f, hf⟩ : ∃ f, at' xp j = f := ⟨_, rfl⟩
              rw [hf] at c0 c1 c2 c3
              have hget : xp[j] = f := by rw [← hf, at_get hjL]
              have CE : Hid _ := fun (v : World) (hv : TabB v) => elementS_any f v hv
              have h24 := elt_le f
              have AD := add_tbs (34 :: eTx (xp.take j)) ((elt f).getD []) (by simp; omega)
              have HT3 : Hid (tbs ((34 :: eTx (xp.take j)) ++ (elt f).getD []) = tbs (34 :: eTx (xp.take (j + 1)))) := by show _ = _; rw [eTx_take xp j hjL, hget]; rfl
              unfold Rdx at CE
              generalize tbs ((34 :: eTx (xp.take j)) ++ (elt f).getD []) = t3 at *
              generalize tbs (34 :: eTx (xp.take j)) = t at *
              generalize tbs ((elt f).getD []) = u at *
              clear hC hget hf
              obtain ⟨w5, e5⟩ : ∃ w5, w5 = wr.alloc (.cells #[.int .u64 ((wd (f) 0 : Nat) : Int), .int .u64 ((wd (f) 1 : Nat) : Int), .int .u64 ((wd (f) 2 : Nat) : Int), .int .u64 ((wd (f) 3 : Nat) : Int)] 35) := ⟨_, rfl⟩
              have b5 : Below wr.heap.size wr w5 := by rw [e5]; exact al_below _ _
              have D5 : Hid (Pw w w5 k xa xn (some ⟨g, o, none⟩) xp xc) := DR.out.grow b5
              have q5 : Kc w5 wr.heap.size f := by rw [e5]; exact k4_new _ _ _ _ _ _
              have E5 : Hid _ := e5
              obtain ⟨d0, d1, d2, d3⟩ := q5
              clear e5 b5 DR
              go_wp2_with (first | rw [← E5.out])
              refine Calls.mono (CE.out w5 D5.out.tb) ?_; rintro e w6 ⟨rfl, b6⟩
              have D6 : Hid (Pw w w6 k xa xn (some ⟨g, o, none⟩) xp xc) := D5.out.grow b6
              clear b6 d0 d1 d2 d3 E5 c0 c1 c2 c3 D5
              go_wp2_with fail
              go_roundw
              case rel => exact ⟨D6.out, j + 1, by omega, by go_num, by rw [← HT3.out]⟩
              case measure => simp [intOf]; omega
            · obtain rfl : j = n := by omega
              have e : xp.take j = xp := by rw [List.take_of_length_le (by rw [HN.out]; exact Nat.le_refl _)]
              rw [e] at hle ⊢
              have hl9 := eTx_le xp
              rw [HN.out] at hl9
              have AD := add_tbs (34 :: eTx xp) [34] (by simp; omega)
              rw [show tbs [34] = ⟨#[34]⟩ from rfl] at AD
              have HFT : Hid (tbs T0 = tbs ((34 :: eTx xp) ++ [34])) := by show _ = _; rw [HT0.out]
              generalize tbs ((34 :: eTx xp) ++ [34]) = t2 at *
              generalize tbs (34 :: eTx xp) = t at *
              clear e
              go_wp2_with fail
              refine bodyPost_ret (results_tmp2 rfl _ _ _) rfl ?_
              exact ⟨by unfold Rdx; show _ = Ending.returned (.tuple #[.string (tbs T0), .bool true]); rw [HFT.out]; rfl, DR.out.bel⟩
        · rw [if_neg hc] at hp
          cases hp
      · have h8I : ((k : Int) == 8) = false := beq_eq_false_iff_ne.2 (by omega)
        rw [prI_sign (show 1 ≤ (k : Int) by omega) (show (k : Int) ≤ 5 by omega)] at hp
        simp only [Int.toNat_natCast] at hp
        by_cases hc : xn = 0 ∧ xp.length = 0
        · rw [if_pos hc] at hp
          have HT0 : Hid (T0 = [sg8 k]) := by
            show _ = _
            have := Option.some.inj hp
            first | (rw [← this]; done) | (rw [← this]; simp)
          have HFT : Hid (tbs T0 = tbs [sg8 k]) := by show _ = _; rw [HT0.out]
          generalize tbs [sg8 k] = t1 at *
          clear hp HT0 hc h8 h67
          go_enter Tryd.func16, Tryd.ntmps16
          go_wp2_with (first | rw [← E1.out])
          refine Calls.mono C1.out ?_; rintro e w2 ⟨rfl, b2⟩
          have D2 : Hid (Pw w w2 (k : Int) xa xn xo xp xc) := D1.out.grow b2
          clear b2 a0 a1 a2 a3
          obtain ⟨a0, a1, a2, a3⟩ := D2.out.k
          go_wp2_with (first | rw [hn1] | rw [hn2] | rw [hcut])
          refine bodyPost_ret (results_tmp2 rfl _ _ _) rfl ?_
          exact ⟨by unfold Rdx; show _ = Ending.returned (.tuple #[.string (tbs T0), .bool true]); rw [HFT.out]; rfl, D2.out.bel⟩
        · rw [if_neg hc] at hp
          cases hp

end Cls
end Go.Proofs.YtljahelbbafhlaaDoor
