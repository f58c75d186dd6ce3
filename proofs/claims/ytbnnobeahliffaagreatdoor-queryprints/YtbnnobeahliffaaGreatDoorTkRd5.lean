/- Contract of token's readDigits. (Written by mktk4.py.) -/
import Derived.Test.YtbnnobeahliffaaGreatDoorTkRd3
import Derived.Test.YtbnnobeahliffaaGreatDoorTkNum
set_option linter.unusedVariables false
namespace Go.Proofs.YtbnnobeahliffaaGreatDoor
open Go.RowKit
namespace Cls

/-- What is read of a number, as the program has it. -/
def rdg : Rd Nat → Value
  | .ok (v, n) => .tuple #[.int .i64 (v : Int), .int .i64 (n : Int), .int .i64 0]
  | .error (p, c) => .tuple #[.int .i64 0, .int .i64 (p : Int), .int .i64 (c : Int)]

/-- Where the loop of digits stands. -/
def Dg (w wr : World) (s : ByteArray) (q tt n f : Nat) : Prop := wr = w ∧ q ≤ tt ∧ (tt = q ∨ tt ≤ s.size) ∧ n ≤ 10000009 ∧ f + (tt - q) = s.size ∧ nml s (s.size + 1) q 0 = nml s (f + 1) tt n

set_option maxRecDepth 100000 in
set_option maxHeartbeats 4000000 in
theorem digits_any (s : ByteArray) (q : Nat) (hs : s.size ≤ 1000000) (hq2 : q ≤ s.size) (w : World) :
    Calls Tryz.prog 58 #[.string s, .int .i64 (q : Int)] w fun e w' => e = .returned (rdg (nmb s q)) ∧ w' = w := by
  have hw1 : IntKind.i64.wrap ((q : Int) + 1) = (q : Int) + 1 := by rw [IntKind.wrap_i64]; omega
  go_enter Tryz.func58, Tryz.ntmps58
  go_wp2_with fail
  refine wp_scope_once 0 (fun a' wr => ∃ (tt n f : Nat) (u9 u10 u11 u12 u13 u14 u15 u16 u17 u18 u19 u20 u21 u22 u23 u24 u25 u26 u27 u28 u29 u30 u31 u32 u33 u34 u35 u36 u37 u38 u39 u40 u41 u42 u43 u44 u45 u46 u47 u48 u49 u50 u51 u52 u53 u54 u55 u56 u57 u58 u59 u60 u61 : Value), a' = { tmps := #[.string s, .int .i64 (q : Int), undef, undef, .int .i64 0, .int .i64 0, .int .i64 0, .int .i64 (n : Int), .int .i64 (tt : Int), u9, u10, u11, u12, u13, u14, u15, u16, u17, u18, u19, u20, u21, u22, u23, u24, u25, u26, u27, u28, u29, u30, u31, u32, u33, u34, u35, u36, u37, u38, u39, u40, u41, u42, u43, u44, u45, u46, u47, u48, u49, u50, u51, u52, u53, u54, u55, u56, u57, u58, u59, u60, u61], defers := [] } ∧ Dg w wr s q tt n f) (fun a' _ => s.size - (intAt' (a'.tmps.getD 8 undef)).toNat) rfl ?_ ?_
  · rintro a' wr ⟨tt, n, f, u9, u10, u11, u12, u13, u14, u15, u16, u17, u18, u19, u20, u21, u22, u23, u24, u25, u26, u27, u28, u29, u30, u31, u32, u33, u34, u35, u36, u37, u38, u39, u40, u41, u42, u43, u44, u45, u46, u47, u48, u49, u50, u51, u52, u53, u54, u55, u56, u57, u58, u59, u60, u61, rfl, rfl, hto, hts, hn, hf, hx⟩
    by_cases h1 : tt < s.size
    · have h1I : (tt : Int) < (s.size : Int) := by omega
      have hit : ∀ w, (Instr.index 9 (.string s) (.int .i64 (tt : Int))).run Tryz.prog w = .ok (.int .u8 ((byt s tt : Nat) : Int)) w := fun w => idx_str s tt h1 w
      have hbt := byt_lt s tt
      have hwt : IntKind.i64.wrap ((tt : Int) + 1) = (tt : Int) + 1 := by rw [IntKind.wrap_i64]; omega
      by_cases h2 : 48 ≤ byt s tt
      · have h2I : (48 : Int) ≤ ((byt s tt : Nat) : Int) := by omega
        by_cases h3 : byt s tt ≤ 57
        · have h3I : ((byt s tt : Nat) : Int) ≤ 57 := by omega
          have hd : dig (byt s tt) = true := by unfold dig; rw [decide_eq_true h2, decide_eq_true h3]; rfl
          have hx2 := nml_step hx h1 hd
          by_cases h4 : n ≤ 1000000
          · rw [if_pos h4] at hx2
            have h4I : (n : Int) ≤ 1000000 := by omega
            have HX : Hid (∃ f', f = f' + 1 ∧ nml s (s.size + 1) q 0 = nml s (f' + 1) (tt + 1) (10 * n + (byt s tt - 48))) := ⟨f - 1, by omega, by rw [show f - 1 + 1 = f by omega]; exact hx2⟩
            have e10 : IntKind.i64.wrap (10 * (n : Int)) = 10 * (n : Int) := by rw [IntKind.wrap_i64]; omega
            have ed : IntKind.u8.wrap (((byt s tt : Nat) : Int) - 48) = ((byt s tt : Nat) : Int) - 48 := by rw [IntKind.wrap_u8]; omega
            have ec : IntKind.i64.wrap (((byt s tt : Nat) : Int) - 48) = ((byt s tt : Nat) : Int) - 48 := by rw [IntKind.wrap_i64]; omega
            obtain ⟨m, hm⟩ : ∃ m, 10 * n + (byt s tt - 48) = m := ⟨_, rfl⟩
            rw [hm] at HX
            have ea : IntKind.i64.wrap (10 * (n : Int) + (((byt s tt : Nat) : Int) - 48)) = (m : Int) := by rw [IntKind.wrap_i64]; omega
            have hml : m ≤ 10000009 := by omega
            obtain ⟨t2, ht2⟩ : ∃ t2, t2 = tt + 1 := ⟨_, rfl⟩
            clear hx hx2 hd hm
            generalize byt s tt = x at *
            go_wp2_with fail
            go_step3
            obtain ⟨f', hf', hx'⟩ := HX.out
            have hc : (tt : Int) + 1 = (t2 : Int) := by omega
            refine ⟨rfl, ?_, ?_⟩
            · rw [hc]
              exact ⟨t2, m, f', _, _, _, _, _, _, _, _, _, _, _, _, _, _, _, _, _, _, _, _, _, _, _, _, _, _, _, _, _, _, _, _, _, _, _, _, _, _, _, _, _, _, _, _, _, _, _, _, _, _, _, _, _, rfl, rfl, by omega, .inr (by omega), hml, by omega, by rw [ht2]; exact hx'⟩
            · show s.size - ((tt : Int) + 1).toNat < s.size - ((tt : Int)).toNat
              omega
          · rw [if_neg h4] at hx2
            have h4I : ¬ (n : Int) ≤ 1000000 := by omega
            have HX : Hid (∃ f', f = f' + 1 ∧ nml s (s.size + 1) q 0 = nml s (f' + 1) (tt + 1) n) := ⟨f - 1, by omega, by rw [show f - 1 + 1 = f by omega]; exact hx2⟩
            obtain ⟨t2, ht2⟩ : ∃ t2, t2 = tt + 1 := ⟨_, rfl⟩
            clear hx hx2 hd
            generalize byt s tt = x at *
            go_wp2_with fail
            go_step3
            obtain ⟨f', hf', hx'⟩ := HX.out
            have hc : (tt : Int) + 1 = (t2 : Int) := by omega
            refine ⟨rfl, ?_, ?_⟩
            · rw [hc]
              exact ⟨t2, n, f', _, _, _, _, _, _, _, _, _, _, _, _, _, _, _, _, _, _, _, _, _, _, _, _, _, _, _, _, _, _, _, _, _, _, _, _, _, _, _, _, _, _, _, _, _, _, _, _, _, _, _, _, _, rfl, rfl, by omega, .inr (by omega), by omega, by omega, by rw [ht2]; exact hx'⟩
            · show s.size - ((tt : Int) + 1).toNat < s.size - ((tt : Int)).toNat
              omega
        · have h3I : ¬ ((byt s tt : Nat) : Int) ≤ 57 := by omega
          have HX : Hid (nml s (s.size + 1) q 0 = (tt, n)) := nml_stop hx (fun h => by have := h.2; unfold dig at this; rw [decide_eq_false h3, Bool.and_false] at this; cases this)
          clear hx
          generalize byt s tt = x at *
          by_cases g1 : tt = q
          · have HN : Hid (nmb s q = .error (q, 134)) := nmb_no HX.out (.inl g1)
            subst g1
            have g3I : ((tt : Int) == (tt : Int)) = true := beq_self_eq_true _
            have g4I : ¬ (tt : Int) + 1 < (tt : Int) := by omega
            go_wp2_with fail
            try simp only [Exit.jump]
            refine bodyPost_ret (results_tmp3 rfl _ _ _) rfl ?_
            exact ⟨by rw [HN.out]; rfl, rfl⟩
          · have hqs : q < s.size := by omega
            have hiq : ∀ w, (Instr.index 9 (.string s) (.int .i64 (q : Int))).run Tryz.prog w = .ok (.int .u8 ((byt s q : Nat) : Int)) w := fun w => idx_str s q hqs w
            have g1I : ((tt : Int) == (q : Int)) = false := beq_eq_false_iff_ne.2 (by omega)
            by_cases g3 : q + 1 < tt
            · have g3I : (q : Int) + 1 < (tt : Int) := by omega
              by_cases g2 : byt s q = 48
              · rw [g2] at hiq
                have HN : Hid (nmb s q = .error (q, 134)) := nmb_no HX.out (.inr (.inl ⟨g2, g3⟩))
                go_wp2_with fail
                try simp only [Exit.jump]
                refine bodyPost_ret (results_tmp3 rfl _ _ _) rfl ?_
                exact ⟨by rw [HN.out]; rfl, rfl⟩
              · have g2I : (((byt s q : Nat) : Int) == 48) = false := beq_eq_false_iff_ne.2 (by omega)
                by_cases g4 : 1000000 < n
                · have HN : Hid (nmb s q = .error (q, 134)) := nmb_no HX.out (.inr (.inr g4))
                  have g4I : (1000000 : Int) < (n : Int) := by omega
                  generalize byt s q = z at hiq g2 g2I
                  go_wp2_with fail
                  try simp only [Exit.jump]
                  refine bodyPost_ret (results_tmp3 rfl _ _ _) rfl ?_
                  exact ⟨by rw [HN.out]; rfl, rfl⟩
                · have HN : Hid (nmb s q = .ok (n, tt)) := nmb_yes HX.out (by omega)
                  have g4I : ¬ (1000000 : Int) < (n : Int) := by omega
                  generalize byt s q = z at hiq g2 g2I
                  go_wp2_with fail
                  try simp only [Exit.jump]
                  refine bodyPost_ret (results_tmp3 rfl _ _ _) rfl ?_
                  exact ⟨by rw [HN.out]; rfl, rfl⟩
            · have g3I : ¬ (q : Int) + 1 < (tt : Int) := by omega
              by_cases g4 : 1000000 < n
              · have HN : Hid (nmb s q = .error (q, 134)) := nmb_no HX.out (.inr (.inr g4))
                have g4I : (1000000 : Int) < (n : Int) := by omega
                go_wp2_with fail
                try simp only [Exit.jump]
                refine bodyPost_ret (results_tmp3 rfl _ _ _) rfl ?_
                exact ⟨by rw [HN.out]; rfl, rfl⟩
              · have HN : Hid (nmb s q = .ok (n, tt)) := nmb_yes HX.out (by omega)
                have g4I : ¬ (1000000 : Int) < (n : Int) := by omega
                go_wp2_with fail
                try simp only [Exit.jump]
                refine bodyPost_ret (results_tmp3 rfl _ _ _) rfl ?_
                exact ⟨by rw [HN.out]; rfl, rfl⟩
      · have h2I : ¬ (48 : Int) ≤ ((byt s tt : Nat) : Int) := by omega
        have HX : Hid (nml s (s.size + 1) q 0 = (tt, n)) := nml_stop hx (fun h => by have := h.2; unfold dig at this; rw [decide_eq_false h2, Bool.false_and] at this; cases this)
        clear hx
        generalize byt s tt = x at *
        by_cases g1 : tt = q
        · have HN : Hid (nmb s q = .error (q, 134)) := nmb_no HX.out (.inl g1)
          subst g1
          have g3I : ((tt : Int) == (tt : Int)) = true := beq_self_eq_true _
          have g4I : ¬ (tt : Int) + 1 < (tt : Int) := by omega
          go_wp2_with fail
          try simp only [Exit.jump]
          refine bodyPost_ret (results_tmp3 rfl _ _ _) rfl ?_
          exact ⟨by rw [HN.out]; rfl, rfl⟩
        · have hqs : q < s.size := by omega
          have hiq : ∀ w, (Instr.index 9 (.string s) (.int .i64 (q : Int))).run Tryz.prog w = .ok (.int .u8 ((byt s q : Nat) : Int)) w := fun w => idx_str s q hqs w
          have g1I : ((tt : Int) == (q : Int)) = false := beq_eq_false_iff_ne.2 (by omega)
          by_cases g3 : q + 1 < tt
          · have g3I : (q : Int) + 1 < (tt : Int) := by omega
            by_cases g2 : byt s q = 48
            · rw [g2] at hiq
              have HN : Hid (nmb s q = .error (q, 134)) := nmb_no HX.out (.inr (.inl ⟨g2, g3⟩))
              go_wp2_with fail
              try simp only [Exit.jump]
              refine bodyPost_ret (results_tmp3 rfl _ _ _) rfl ?_
              exact ⟨by rw [HN.out]; rfl, rfl⟩
            · have g2I : (((byt s q : Nat) : Int) == 48) = false := beq_eq_false_iff_ne.2 (by omega)
              by_cases g4 : 1000000 < n
              · have HN : Hid (nmb s q = .error (q, 134)) := nmb_no HX.out (.inr (.inr g4))
                have g4I : (1000000 : Int) < (n : Int) := by omega
                generalize byt s q = z at hiq g2 g2I
                go_wp2_with fail
                try simp only [Exit.jump]
                refine bodyPost_ret (results_tmp3 rfl _ _ _) rfl ?_
                exact ⟨by rw [HN.out]; rfl, rfl⟩
              · have HN : Hid (nmb s q = .ok (n, tt)) := nmb_yes HX.out (by omega)
                have g4I : ¬ (1000000 : Int) < (n : Int) := by omega
                generalize byt s q = z at hiq g2 g2I
                go_wp2_with fail
                try simp only [Exit.jump]
                refine bodyPost_ret (results_tmp3 rfl _ _ _) rfl ?_
                exact ⟨by rw [HN.out]; rfl, rfl⟩
          · have g3I : ¬ (q : Int) + 1 < (tt : Int) := by omega
            by_cases g4 : 1000000 < n
            · have HN : Hid (nmb s q = .error (q, 134)) := nmb_no HX.out (.inr (.inr g4))
              have g4I : (1000000 : Int) < (n : Int) := by omega
              go_wp2_with fail
              try simp only [Exit.jump]
              refine bodyPost_ret (results_tmp3 rfl _ _ _) rfl ?_
              exact ⟨by rw [HN.out]; rfl, rfl⟩
            · have HN : Hid (nmb s q = .ok (n, tt)) := nmb_yes HX.out (by omega)
              have g4I : ¬ (1000000 : Int) < (n : Int) := by omega
              go_wp2_with fail
              try simp only [Exit.jump]
              refine bodyPost_ret (results_tmp3 rfl _ _ _) rfl ?_
              exact ⟨by rw [HN.out]; rfl, rfl⟩
    · have h1I : ¬ (tt : Int) < (s.size : Int) := by omega
      have HX : Hid (nml s (s.size + 1) q 0 = (tt, n)) := nml_stop hx (fun h => h1 h.1)
      clear hx
      by_cases g1 : tt = q
      · have HN : Hid (nmb s q = .error (q, 134)) := nmb_no HX.out (.inl g1)
        subst g1
        have g3I : ((tt : Int) == (tt : Int)) = true := beq_self_eq_true _
        have g4I : ¬ (tt : Int) + 1 < (tt : Int) := by omega
        go_wp2_with fail
        try simp only [Exit.jump]
        refine bodyPost_ret (results_tmp3 rfl _ _ _) rfl ?_
        exact ⟨by rw [HN.out]; rfl, rfl⟩
      · have hqs : q < s.size := by omega
        have hiq : ∀ w, (Instr.index 9 (.string s) (.int .i64 (q : Int))).run Tryz.prog w = .ok (.int .u8 ((byt s q : Nat) : Int)) w := fun w => idx_str s q hqs w
        have g1I : ((tt : Int) == (q : Int)) = false := beq_eq_false_iff_ne.2 (by omega)
        by_cases g3 : q + 1 < tt
        · have g3I : (q : Int) + 1 < (tt : Int) := by omega
          by_cases g2 : byt s q = 48
          · rw [g2] at hiq
            have HN : Hid (nmb s q = .error (q, 134)) := nmb_no HX.out (.inr (.inl ⟨g2, g3⟩))
            go_wp2_with fail
            try simp only [Exit.jump]
            refine bodyPost_ret (results_tmp3 rfl _ _ _) rfl ?_
            exact ⟨by rw [HN.out]; rfl, rfl⟩
          · have g2I : (((byt s q : Nat) : Int) == 48) = false := beq_eq_false_iff_ne.2 (by omega)
            by_cases g4 : 1000000 < n
            · have HN : Hid (nmb s q = .error (q, 134)) := nmb_no HX.out (.inr (.inr g4))
              have g4I : (1000000 : Int) < (n : Int) := by omega
              generalize byt s q = z at hiq g2 g2I
              go_wp2_with fail
              try simp only [Exit.jump]
              refine bodyPost_ret (results_tmp3 rfl _ _ _) rfl ?_
              exact ⟨by rw [HN.out]; rfl, rfl⟩
            · have HN : Hid (nmb s q = .ok (n, tt)) := nmb_yes HX.out (by omega)
              have g4I : ¬ (1000000 : Int) < (n : Int) := by omega
              generalize byt s q = z at hiq g2 g2I
              go_wp2_with fail
              try simp only [Exit.jump]
              refine bodyPost_ret (results_tmp3 rfl _ _ _) rfl ?_
              exact ⟨by rw [HN.out]; rfl, rfl⟩
        · have g3I : ¬ (q : Int) + 1 < (tt : Int) := by omega
          by_cases g4 : 1000000 < n
          · have HN : Hid (nmb s q = .error (q, 134)) := nmb_no HX.out (.inr (.inr g4))
            have g4I : (1000000 : Int) < (n : Int) := by omega
            go_wp2_with fail
            try simp only [Exit.jump]
            refine bodyPost_ret (results_tmp3 rfl _ _ _) rfl ?_
            exact ⟨by rw [HN.out]; rfl, rfl⟩
          · have HN : Hid (nmb s q = .ok (n, tt)) := nmb_yes HX.out (by omega)
            have g4I : ¬ (1000000 : Int) < (n : Int) := by omega
            go_wp2_with fail
            try simp only [Exit.jump]
            refine bodyPost_ret (results_tmp3 rfl _ _ _) rfl ?_
            exact ⟨by rw [HN.out]; rfl, rfl⟩
  · intro K
    have HK : Hid _ := K
    clear K
    go_wp2_with fail
    go_step3
    go_step
    go_step
    exact HK.out _ _ ⟨q, 0, s.size, _, _, _, _, _, _, _, _, _, _, _, _, _, _, _, _, _, _, _, _, _, _, _, _, _, _, _, _, _, _, _, _, _, _, _, _, _, _, _, _, _, _, _, _, _, _, _, _, _, _, _, _, _, rfl, rfl, Nat.le_refl _, .inl rfl, by omega, by omega, rfl⟩

end Cls
end Go.Proofs.YtbnnobeahliffaaGreatDoor
