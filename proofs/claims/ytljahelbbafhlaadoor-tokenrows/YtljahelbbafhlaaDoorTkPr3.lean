/- Contracts of beagleref13.Digits and Print. (Written by mktk13.py.) -/
import Derived.Test.YtljahelbbafhlaaDoorTkPr1
import Derived.Test.YtljahelbbafhlaaDoorTkWro
import Derived.Test.YtljahelbbafhlaaDoorTkWr4
set_option linter.unusedVariables false
namespace Go.Proofs.YtljahelbbafhlaaDoor
open Go.RowKit
namespace Cls

/-- The digits ahead of the last one. -/
def dpr (n : Nat) : List Nat := if n < 10 then [] else dgs (n / 10)

theorem dgs_dpr (n : Nat) : dgs n = dpr n ++ [48 + n % 10] := by
  unfold dpr
  by_cases h : n < 10
  · rw [if_pos h, dgs_one h, show n % 10 = n by omega]; rfl
  · rw [if_neg h, dgs_more h]

set_option maxRecDepth 100000 in
set_option maxHeartbeats 2000000 in
theorem digits13_any (n0 : Nat) (hn0 : n0 ≤ 1000000) (w : World) :
    Calls Tryd.prog 33 #[.int .i64 (n0 : Int)] w fun e w' => e = .returned (.string (tbs (dgs n0))) ∧ Below w.heap.size w w' := by
  have CD : Hid _ := fun (m : Nat) (hm : m < 10) (v : World) => digit13_any m (by omega) v
  have hd0 : hexd (n0 % 10) = 48 + n0 % 10 := by unfold hexd; rw [if_pos (by omega)]
  have C0 : Hid _ := fun (v : World) => CD.out (n0 % 10) (by omega) v
  rw [hd0] at C0
  have HS0 : Hid (dgs n0 = dpr n0 ++ [48 + n0 % 10]) := dgs_dpr n0
  have hr0 : (n0 : Int).tmod 10 = ((n0 % 10 : Nat) : Int) := rfl
  have l7 := dgs_le7 hn0
  clear hd0
  obtain ⟨m0, hm0⟩ : ∃ m0, n0 % 10 = m0 := ⟨_, rfl⟩
  have h10 : m0 < 10 := by omega
  rw [hm0] at C0 hr0 HS0
  clear hm0
  go_enter Tryd.func33, Tryd.ntmps33
  go_wp2_with fail
  refine Calls.mono (C0.out w) ?_; rintro e w2 ⟨rfl, b2⟩
  have B2 : Hid _ := b2
  clear b2
  go_wp2_with fail
  go_loopw [0, 3] (fun vn vt wr => Below w.heap.size w wr ∧ ∃ (n : Nat) (S : List Nat), vn = .int .i64 (n : Int) ∧ vt = .string (tbs S) ∧ n ≤ n0 ∧ dgs n0 = dpr n ++ S) (fun vn _ _ => (intOf vn).toNat)
  case atStart => exact ⟨B2.out, n0, [48 + m0], rfl, rfl, Nat.le_refl _, HS0.out⟩
  case round =>
    obtain ⟨hbel, n, S, rfl, rfl, hle, hS⟩ := hrel
    have HB : Hid _ := hbel
    have HS : Hid (dgs n0 = dpr n ++ S) := hS
    have hlen : S.length ≤ 7 := by
      have := congrArg List.length hS
      rw [List.length_append] at this
      omega
    clear hbel hS HS0 C0
    by_cases hn : n < 10
    · have hI : ¬ 10 ≤ (n : Int) := by omega
      have HF : Hid (S = dgs n0) := by show _ = _; rw [HS.out]; unfold dpr; rw [if_pos hn]; rfl
      go_wp2_with fail
      go_ret
      exact ⟨by rw [← HF.out]; rfl, HB.out⟩
    · have hI : 10 ≤ (n : Int) := by omega
      obtain ⟨m, hm⟩ : ∃ m, n / 10 = m := ⟨_, rfl⟩
      have hq : (n : Int).tdiv 10 = (m : Int) := by rw [← hm]; rfl
      have hr : (m : Int).tmod 10 = ((m % 10 : Nat) : Int) := rfl
      have hd : hexd (m % 10) = 48 + m % 10 := by unfold hexd; rw [if_pos (by omega)]
      have C1 : Hid _ := fun (v : World) => CD.out (m % 10) (by omega) v
      rw [hd] at C1
      have AD := add_tbs [48 + m % 10] S (by simp; omega)
      have HS2 : Hid (dgs n0 = dpr m ++ ([48 + m % 10] ++ S)) := by
        show _ = _
        rw [HS.out]
        have : dpr n = dgs m := by unfold dpr; rw [if_neg hn, hm]
        rw [this, dgs_dpr m, List.append_assoc]
      obtain ⟨m1, hm1⟩ : ∃ m1, m % 10 = m1 := ⟨_, rfl⟩
      have hm10 : m1 < 10 := by omega
      have hmn : m < n := by omega
      rw [hm1] at C1 hr AD HS2
      clear hm1 hd hm
      obtain ⟨t1, ht1⟩ : ∃ t1, tbs ([48 + m1] ++ S) = t1 := ⟨_, rfl⟩
      have HT1 : Hid _ := ht1
      rw [ht1] at AD
      clear ht1
      generalize tbs [48 + m1] = t2 at *
      generalize tbs S = t3 at *
      go_wp2_with fail
      refine Calls.mono (C1.out wr) ?_; rintro e w3 ⟨rfl, b3⟩
      have HB3 : Hid (Below w.heap.size w w3) := HB.out.trans (b3.mono HB.out.size)
      clear b3
      go_wp2_with fail
      go_roundw
      case rel => exact ⟨HB3.out, m, [48 + m1] ++ S, rfl, by rw [HT1.out], by omega, HS2.out⟩
      case measure => simp [intOf]; omega

/-- A token in a box on the way. -/
structure Qw (w wk : World) (xk xa xn : Int) (xo : Option Addr) (xp : List (Nat → Bool)) (xc : Nat) : Prop where
  bel : Below w.heap.size w wk
  k : K4 wk w.heap.size (.int .i64 xk) (.int .i64 xa) (.int .i64 xn) (.slice xo xp.length xc)
  lf : Lf wk xo xp.length (at' xp)

theorem Qw.grow {w wk v : World} {xk xa xn : Int} {xo : Option Addr} {xp : List (Nat → Bool)} {xc : Nat} (h : Qw w wk xk xa xn xo xp xc) (b : Below wk.heap.size wk v) : Qw w v xk xa xn xo xp xc :=
  ⟨h.bel.trans (b.mono h.bel.size), h.k.keep b, h.lf.grow b⟩

theorem sg7_cut (k : Nat) (h1 : 1 ≤ k) (h7 : k ≤ 7) : (⟨#[40, 41, 38, 124, 33, 62, 126]⟩ : ByteArray).extract (k - 1) k = tbs [sg8 k] := by
  have h : ∀ j, j < 7 → (⟨#[40, 41, 38, 124, 33, 62, 126]⟩ : ByteArray).extract j (j + 1) = tbs [sg8 (j + 1)] := by decide
  have := h (k - 1) (by omega)
  rwa [show k - 1 + 1 = k by omega] at this

theorem elt_isSome (f : Nat → Bool) : (elt f).isSome = decide (cb f 0 256 ≠ 0) := by
  by_cases h : cb f 0 256 = 0
  · rw [elt_zero h]; simp [h]
  · obtain ⟨T, hT⟩ := elt_some h
    rw [hT]; simp [h]

theorem prI_pat' {t : Ti} (h8 : t.kind = 8) : prI t = if t.n = 0 ∧ (1 ≤ t.p.length ∧ t.p.length ≤ 64) ∧ ∀ f ∈ t.p, cb f 0 256 ≠ 0 then some (34 :: (eTx t.p ++ [34])) else none := by
  rw [prI_pat h8]
  have hr : rgt (at' t.p) t.p.length 0 = true ↔ (1 ≤ t.p.length ∧ t.p.length ≤ 64) ∧ ∀ f ∈ t.p, cb f 0 256 ≠ 0 := by
    unfold rgt
    rw [Bool.and_eq_true, decide_eq_true_eq, Bool.not_eq_true', ← Bool.not_eq_true, emp_at]
    constructor
    · rintro ⟨⟨a, b, _⟩, h⟩
      exact ⟨⟨a, b⟩, fun f hf e => h ⟨f, hf, e⟩⟩
    · rintro ⟨⟨a, b⟩, h⟩
      exact ⟨⟨a, b, by omega, by omega⟩, fun ⟨f, hf, e⟩ => h f hf e⟩
  by_cases h : t.n = 0 ∧ rgt (at' t.p) t.p.length 0 = true
  · rw [if_pos h, if_pos ⟨h.1, hr.1 h.2⟩]
  · rw [if_neg h, if_neg (fun e => h ⟨e.1, hr.2 e.2⟩)]

set_option maxRecDepth 100000 in
set_option maxHeartbeats 4000000 in
theorem print13_any (x : Tv) (w : World) (hx : x.ok w) :
    Calls Tryd.prog 17 #[x.val] w fun e w' => Rdx (prI x.i) e ∧ Below w.heap.size w w' := by
  obtain ⟨⟨xk, xa, xn, xp⟩, xo, xc⟩ := x
  unfold Tv.ok at hx
  simp only at hx
  unfold Tv.val
  simp only
  obtain ⟨w1, e1⟩ : ∃ w1, w1 = w.alloc (.cells #[.int .i64 xk, .int .i64 xa, .int .i64 xn, .slice xo xp.length xc] 42) := ⟨_, rfl⟩
  have b1 : Below w.heap.size w w1 := by rw [e1]; exact al_below _ _
  have q1 : K4 w1 w.heap.size (.int .i64 xk) (.int .i64 xa) (.int .i64 xn) (.slice xo xp.length xc) := by rw [e1]; exact k4_new _ _ _ _ _ _
  have D1 : Hid (Qw w w1 xk xa xn xo xp xc) := ⟨b1, q1, hx.grow b1⟩
  have E1 : Hid _ := e1
  clear e1 b1 q1 hx
  obtain ⟨a0, a1, a2, a3⟩ := D1.out.k
  obtain ⟨l, hl⟩ : ∃ l, xp.length = l := ⟨_, rfl⟩
  have HL : Hid (xp.length = l) := hl
  have hsm := D1.out.lf.small
  rw [hl] at a3 E1 hsm ⊢
  by_cases h1 : xk < 1
  · have HF : Hid (prI ⟨xk, xa, xn, xp⟩ = none) := prI_out (.inl h1)
    go_enter Tryd.func17, Tryd.ntmps17
    go_wp2_with (first | rw [← E1.out])
    refine bodyPost_ret (results_tmp2 rfl _ _ _) rfl ?_
    exact ⟨by unfold Rdx; rw [HF.out]; rfl, D1.out.bel⟩
  · by_cases h8 : 8 < xk
    · have HF : Hid (prI ⟨xk, xa, xn, xp⟩ = none) := prI_out (.inr h8)
      go_enter Tryd.func17, Tryd.ntmps17
      go_wp2_with (first | rw [← E1.out])
      refine bodyPost_ret (results_tmp2 rfl _ _ _) rfl ?_
      exact ⟨by unfold Rdx; rw [HF.out]; rfl, D1.out.bel⟩
    · by_cases hn0 : xn < 0
      · have HF : Hid (prI ⟨xk, xa, xn, xp⟩ = none) := by show _ = _; unfold prI; rw [if_pos (.inr (.inr (.inl hn0)))]
        go_enter Tryd.func17, Tryd.ntmps17
        go_wp2_with (first | rw [← E1.out])
        refine bodyPost_ret (results_tmp2 rfl _ _ _) rfl ?_
        exact ⟨by unfold Rdx; rw [HF.out]; rfl, D1.out.bel⟩
      · by_cases hn1 : 1000000 < xn
        · have HF : Hid (prI ⟨xk, xa, xn, xp⟩ = none) := by show _ = _; unfold prI; rw [if_pos (.inr (.inr (.inr hn1)))]
          go_enter Tryd.func17, Tryd.ntmps17
          go_wp2_with (first | rw [← E1.out])
          refine bodyPost_ret (results_tmp2 rfl _ _ _) rfl ?_
          exact ⟨by unfold Rdx; rw [HF.out]; rfl, D1.out.bel⟩
        · obtain ⟨k, rfl⟩ : ∃ k : Nat, xk = (k : Int) := ⟨xk.toNat, by omega⟩
          obtain ⟨n, rfl⟩ : ∃ n : Nat, xn = (n : Int) := ⟨xn.toNat, by omega⟩
          have g1 : ¬ (k : Int) < 1 := by omega
          have g2 : ¬ 8 < (k : Int) := by omega
          have g3 : ¬ (n : Int) < 0 := by omega
          have g4 : ¬ 1000000 < (n : Int) := by omega
          have hka : ((k : Int) - 1).toNat = k - 1 := by omega
          have hkb : ((k : Int)).toNat = k := by omega
          have hwk : IntKind.i64.wrap ((k : Int) - 1) = (k : Int) - 1 := by rw [IntKind.wrap_i64]; omega
          have hb1 : (0 : Int) ≤ (k : Int) - 1 := by omega
          have hb2 : (k : Int) - 1 ≤ (k : Int) := by omega
          by_cases hk8 : k = 8
          · have h8I : ((k : Int) == 8) = true := beq_iff_eq.2 (by omega)
            by_cases hnz : n = 0
            · have hnI : ((n : Int) != 0) = false := by simp [hnz]
              by_cases hl1 : l < 1
              · have HF : Hid (prI ⟨k, xa, n, xp⟩ = none) := by show _ = _; rw [prI_pat' (show (k : Int) = 8 by omega)]; exact if_neg (fun e => by have := e.2.1.1; simp only at this; omega)
                have hl1I : (l : Int) < 1 := by omega
                clear hk8 hnz hl1
                go_enter Tryd.func17, Tryd.ntmps17
                go_wp2_with (first | rw [← E1.out])
                refine bodyPost_ret (results_tmp2 rfl _ _ _) rfl ?_
                exact ⟨by unfold Rdx; rw [HF.out]; rfl, D1.out.bel⟩
              · by_cases hl64 : 64 < l
                · have HF : Hid (prI ⟨k, xa, n, xp⟩ = none) := by show _ = _; rw [prI_pat' (show (k : Int) = 8 by omega)]; exact if_neg (fun e => by have := e.2.1.2; simp only at this; omega)
                  have hl1I : ¬ (l : Int) < 1 := by omega
                  have hl2I : 64 < (l : Int) := by omega
                  clear hk8 hnz hl1 hl64
                  go_enter Tryd.func17, Tryd.ntmps17
                  go_wp2_with (first | rw [← E1.out])
                  refine bodyPost_ret (results_tmp2 rfl _ _ _) rfl ?_
                  exact ⟨by unfold Rdx; rw [HF.out]; rfl, D1.out.bel⟩
                · have hl1I : ¬ (l : Int) < 1 := by omega
                  have hl2I : ¬ 64 < (l : Int) := by omega
                  have HP : Hid (prI ⟨k, xa, n, xp⟩ = if ∀ f ∈ xp, cb f 0 256 ≠ 0 then some (34 :: (eTx xp ++ [34])) else none) := by
                    show _ = _
                    rw [prI_pat' (show (k : Int) = 8 by omega)]
                    by_cases h : ∀ f ∈ xp, cb f 0 256 ≠ 0
                    · rw [if_pos ⟨by simp only; omega, ⟨by simp only; omega, by simp only; omega⟩, h⟩, if_pos h]
                    · rw [if_neg (fun e => h e.2.2), if_neg h]
                  clear hk8 hnz
                  go_enter Tryd.func17, Tryd.ntmps17
                  go_wp2_with (first | rw [← E1.out])
                  go_loopw [4, 5] (fun vt vk wr => Qw w wr k xa n xo xp xc ∧ ∃ j : Nat, j ≤ l ∧ vk = .int .i64 (j : Int) ∧ vt = .string (tbs (eTx (xp.take j))) ∧ ∀ t, (h : t < xp.length) → t < j → cb xp[t] 0 256 ≠ 0) (fun _ vk _ => l - (intOf vk).toNat)
                  case atStart => exact ⟨D1.out, 0, Nat.zero_le _, rfl, rfl, fun t _ h => by omega⟩
                  case round =>
                    obtain ⟨hD, j, hj, rfl, rfl, hall⟩ := hrel
                    have DR : Hid (Qw w wr k xa n xo xp xc) := hD
                    have HA : Hid (∀ t, (h : t < xp.length) → t < j → cb xp[t] 0 256 ≠ 0) := hall
                    have hle := eTx_le (xp.take j)
                    rw [List.length_take] at hle
                    clear hD a0 a1 a2 a3 hall
                    obtain ⟨a0, a1, a2, a3⟩ := DR.out.k
                    rw [HL.out] at a3
                    by_cases hjn : j < l
                    · have hjI : (j : Int) < (l : Int) := by omega
                      have hjL : j < xp.length := by rw [HL.out]; exact hjn
                      obtain ⟨g, o, rfl, _, hC⟩ := DR.out.lf.lies (by omega)
                      obtain ⟨c0, c1, c2, c3⟩ := hC.four hjL
                      obtain ⟨f, hf⟩ : ∃ f, at' xp j = f := ⟨_, rfl⟩
                      rw [hf] at c0 c1 c2 c3
                      have hget : xp[j] = f := by rw [← hf, at_get hjL]
                      have CE : Hid _ := fun (v : World) => element13S_any f v
                      unfold Rdx at CE
                      have h24 := elt_le f
                      by_cases hz : cb f 0 256 = 0
                      · have HF : Hid (prI ⟨k, xa, n, xp⟩ = none) := by show _ = _; rw [HP.out, if_neg (fun h => h f (by rw [← hget]; exact List.getElem_mem hjL) hz)]
                        rw [show (elt f).isSome = false by rw [elt_zero hz]; rfl] at CE
                        generalize tbs (eTx (xp.take j)) = t at *
                        generalize tbs ((elt f).getD []) = u at *
                        clear hC hget hf hz
                        go_wp2_with fail
                        refine Calls.mono (CE.out wr) ?_; rintro e w6 ⟨rfl, b6⟩
                        have D6 : Hid (Qw w w6 k xa n (some ⟨g, o, none⟩) xp xc) := DR.out.grow b6
                        clear b6
                        go_wp2_with fail
                        refine bodyPost_ret (results_tmp2 rfl _ _ _) rfl ?_
                        exact ⟨by unfold Rdx; rw [HF.out]; rfl, D6.out.bel⟩
                      · rw [show (elt f).isSome = true by rw [elt_isSome]; simp [hz]] at CE
                        have AD := add_tbs (eTx (xp.take j)) ((elt f).getD []) (by omega)
                        have HT3 : Hid (tbs (eTx (xp.take j) ++ (elt f).getD []) = tbs (eTx (xp.take (j + 1)))) := by show _ = _; rw [eTx_take xp j hjL, hget]
                        have HA2 : Hid (∀ t, (h : t < xp.length) → t < j + 1 → cb xp[t] 0 256 ≠ 0) := fun t h ht => by
                          by_cases e : t = j
                          · subst e; rw [hget]; exact hz
                          · exact HA.out t h (by omega)
                        generalize tbs (eTx (xp.take j) ++ (elt f).getD []) = t3 at *
                        generalize tbs (eTx (xp.take j)) = t at *
                        generalize tbs ((elt f).getD []) = u at *
                        clear hC hget hf hz
                        go_wp2_with fail
                        refine Calls.mono (CE.out wr) ?_; rintro e w6 ⟨rfl, b6⟩
                        have D6 : Hid (Qw w w6 k xa n (some ⟨g, o, none⟩) xp xc) := DR.out.grow b6
                        clear b6
                        go_wp2_with fail
                        go_roundw
                        case rel => exact ⟨D6.out, j + 1, by omega, by go_num, by rw [← HT3.out], HA2.out⟩
                        case measure => simp [intOf]; omega
                    · obtain rfl : j = l := by omega
                      have hjI : ¬ (j : Int) < (j : Int) := by omega
                      have e : xp.take j = xp := by rw [List.take_of_length_le (by rw [HL.out]; exact Nat.le_refl _)]
                      rw [e] at hle ⊢
                      have hl9 := eTx_le xp
                      rw [HL.out] at hl9
                      have HF : Hid (prI ⟨k, xa, n, xp⟩ = some (([34] ++ eTx xp) ++ [34])) := by
                        show _ = _
                        rw [HP.out, if_pos]
                        · simp
                        · intro f hf
                          obtain ⟨t, ht, rfl⟩ := List.getElem_of_mem hf
                          exact HA.out t ht (by rw [← HL.out]; exact ht)
                      have A1 := add_tbs [34] (eTx xp) (by simp; omega)
                      have A2 := add_tbs ([34] ++ eTx xp) [34] (by simp; omega)
                      have HFT : Hid (tbs ((prI ⟨k, xa, n, xp⟩).getD []) = tbs (([34] ++ eTx xp) ++ [34]) ∧ (prI ⟨k, xa, n, xp⟩).isSome = true) := by
                        show _ ∧ _
                        rw [HF.out]
                        exact ⟨rfl, rfl⟩
                      generalize tbs (([34] ++ eTx xp) ++ [34]) = t2 at *
                      generalize tbs ([34] ++ eTx xp) = t1 at *
                      rw [show tbs [34] = ⟨#[34]⟩ from rfl] at A1 A2
                      generalize tbs (eTx xp) = t at *
                      clear e
                      go_wp2_with fail
                      refine bodyPost_ret (results_tmp2 rfl _ _ _) rfl ?_
                      exact ⟨by unfold Rdx; rw [HFT.out.1, HFT.out.2]; rfl, DR.out.bel⟩
            · have HF : Hid (prI ⟨k, xa, n, xp⟩ = none) := by show _ = _; rw [prI_pat' (show (k : Int) = 8 by omega)]; exact if_neg (fun e => by have := e.1; simp only at this; omega)
              have hnI : ((n : Int) != 0) = true := by
                have : ¬ (n : Int) = 0 := by omega
                simpa using this
              clear hk8 hnz
              go_enter Tryd.func17, Tryd.ntmps17
              go_wp2_with (first | rw [← E1.out])
              refine bodyPost_ret (results_tmp2 rfl _ _ _) rfl ?_
              exact ⟨by unfold Rdx; rw [HF.out]; rfl, D1.out.bel⟩
          · have h8I : ((k : Int) == 8) = false := beq_eq_false_iff_ne.2 (by omega)
            have hcut := sg7_cut k (by omega) (by omega)
            have hb3 : (k : Int) ≤ 7 := by omega
            by_cases hl0 : l = 0
            · have hl0I : ¬ 0 < (l : Int) := by omega
              by_cases hk6 : 6 ≤ k
              · have hk6I : 6 ≤ (k : Int) := by omega
                have HF0 : prI ⟨k, xa, n, xp⟩ = some ([sg8 k] ++ dgs n) := by
                  rw [prI_num (show (k : Int) = 6 ∨ (k : Int) = 7 by omega)]
                  simp only [Int.toNat_natCast]
                  rw [if_pos ⟨by omega, by omega, by rw [HL.out]; exact hl0⟩]
                  rfl
                have hd7 := dgs_le7 (show n ≤ 1000000 by omega)
                have AD := add_tbs [sg8 k] (dgs n) (by simp; omega)
                have CD : Hid _ := fun (v : World) => digits13_any n (by omega) v
                have HFT : Hid (tbs ((prI ⟨k, xa, n, xp⟩).getD []) = tbs ([sg8 k] ++ dgs n) ∧ (prI ⟨k, xa, n, xp⟩).isSome = true) := by
                  show _ ∧ _
                  rw [HF0]
                  exact ⟨rfl, rfl⟩
                generalize tbs ([sg8 k] ++ dgs n) = t3 at *
                generalize tbs (dgs n) = t2 at *
                generalize tbs [sg8 k] = t1 at *
                clear hk6 hl0 HF0
                go_enter Tryd.func17, Tryd.ntmps17
                go_wp2_with (first | rw [← E1.out])
                go_region_held3 (fun w' => w'.cell? ⟨w.heap.size, 0, none⟩ = some (.int .i64 (k : Int)) ∧ w'.cell? ⟨w.heap.size, 2, none⟩ = some (.int .i64 (n : Int))) (go_keep)
                  (first | rw [hka] | rw [hkb] | rw [hcut] | (go_at_call 33; (with_reducible refine Calls.mono (CD.out _) ?_); rintro e w3 ⟨rfl, b3⟩; have b3' : Below w1.heap.size w1 w3 := (by first | exact undrew b3 | exact b3); have D3 : Hid (Qw w w3 k xa n xo xp xc) := D1.out.grow b3'; obtain ⟨m0, m1, m2, m3⟩ := D3.out.k; clear b3 b3'))
                all_goals
                  go_wp2_with (first | rw [hka] | rw [hkb] | rw [hcut])
                  refine bodyPost_ret (results_tmp2 rfl _ _ _) rfl ?_
                  exact ⟨by unfold Rdx; rw [HFT.out.1, HFT.out.2]; rfl, D3.out.bel⟩
              · have hk6I : ¬ 6 ≤ (k : Int) := by omega
                by_cases hnz : n = 0
                · have hnI : ((n : Int) != 0) = false := by simp [hnz]
                  have HF0 : prI ⟨k, xa, n, xp⟩ = some [sg8 k] := by
                    rw [prI_sign (show 1 ≤ (k : Int) by omega) (show (k : Int) ≤ 5 by omega)]
                    simp only [Int.toNat_natCast]
                    rw [if_pos ⟨by omega, by rw [HL.out]; exact hl0⟩]
                  have HFT : Hid (tbs ((prI ⟨k, xa, n, xp⟩).getD []) = tbs [sg8 k] ∧ (prI ⟨k, xa, n, xp⟩).isSome = true) := by
                    show _ ∧ _
                    rw [HF0]
                    exact ⟨rfl, rfl⟩
                  generalize tbs [sg8 k] = t1 at *
                  clear hk6 hl0 hnz HF0
                  go_enter Tryd.func17, Tryd.ntmps17
                  go_wp2_with (first | rw [← E1.out] | rw [hka] | rw [hkb] | rw [hcut])
                  refine bodyPost_ret (results_tmp2 rfl _ _ _) rfl ?_
                  exact ⟨by unfold Rdx; rw [HFT.out.1, HFT.out.2]; rfl, D1.out.bel⟩
                · have hnI : ((n : Int) != 0) = true := by
                    have : ¬ (n : Int) = 0 := by omega
                    simpa using this
                  have HF : Hid (prI ⟨k, xa, n, xp⟩ = none) := by
                    show _ = _
                    rw [prI_sign (show 1 ≤ (k : Int) by omega) (show (k : Int) ≤ 5 by omega)]
                    exact if_neg (fun e => by have := e.1; simp only at this; omega)
                  clear hk6 hl0 hnz
                  go_enter Tryd.func17, Tryd.ntmps17
                  go_wp2_with (first | rw [← E1.out])
                  refine bodyPost_ret (results_tmp2 rfl _ _ _) rfl ?_
                  exact ⟨by unfold Rdx; rw [HF.out]; rfl, D1.out.bel⟩
            · have hl0I : 0 < (l : Int) := by omega
              have HF : Hid (prI ⟨k, xa, n, xp⟩ = none) := by
                show _ = _
                by_cases hk6 : 6 ≤ k
                · rw [prI_num (show (k : Int) = 6 ∨ (k : Int) = 7 by omega)]
                  exact if_neg (fun e => by have := e.2.2; simp only at this; omega)
                · rw [prI_sign (show 1 ≤ (k : Int) by omega) (show (k : Int) ≤ 5 by omega)]
                  exact if_neg (fun e => by have := e.2; simp only at this; omega)
              clear hl0
              go_enter Tryd.func17, Tryd.ntmps17
              go_wp2_with (first | rw [← E1.out])
              refine bodyPost_ret (results_tmp2 rfl _ _ _) rfl ?_
              exact ⟨by unfold Rdx; rw [HF.out]; rfl, D1.out.bel⟩

end Cls
end Go.Proofs.YtljahelbbafhlaaDoor
