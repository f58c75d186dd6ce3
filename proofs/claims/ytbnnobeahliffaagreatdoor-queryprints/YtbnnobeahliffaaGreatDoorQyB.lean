/- Contract of beagleref13.Element: a class's text. (Written by mktk11.py.) Contracts of beagleref13.Digits and Print. (Written by mktk13.py.) Contracts of beagleref14.bracket, Text, Print. (Written by mkqy3.py.) Contracts of beagleref14.Parse, Print. (Written by mkqy6.py.) Queries: trees that are alike: their rows, depths, texts; a right row's text is parsed as a row that is the same: plain. Queries: what is read hangs not on what follows; tokens' places do not matter; joins, brackets: plain. Queries: where a text is amiss; the law's own query: plain. Contracts of beagleref14.Print, Longest. (Written by mkqy7.py.) Tokens: a text within another one is read as it is alone: plain. Queries: two texts with a sign between, a text between brackets: parsed: plain. Contracts of token.right and token.Print. (Written by mktk12.py.) -/
import Derived.Test.YtbnnobeahliffaaGreatDoorTkWr3
import Derived.Test.YtbnnobeahliffaaGreatDoorClsA
import Derived.Test.YtbnnobeahliffaaGreatDoorClsB
import Derived.Test.YtbnnobeahliffaaGreatDoorTkPr1
import Derived.Test.YtbnnobeahliffaaGreatDoorTkWro
import Derived.Test.YtbnnobeahliffaaGreatDoorQyA
import Derived.Test.YtbnnobeahliffaaGreatDoorTkC

set_option linter.unusedVariables false
namespace Go.Proofs.YtbnnobeahliffaaGreatDoor
open Go.RowKit
namespace Cls

/-- A class in a box on the way, the tables aside. -/
structure Bv (w wk : World) (f : Nat → Bool) : Prop where
  bel : Below w.heap.size w wk
  lt : w.heap.size < wk.heap.size
  fam : Fam wk w.heap.size 0 4 (wi f)

theorem Bv.grow {w wk v : World} {f : Nat → Bool} (h : Bv w wk f) (b : Below wk.heap.size wk v) : Bv w v f :=
  ⟨h.bel.trans (b.mono h.bel.size), Nat.lt_of_lt_of_le h.lt b.size, h.fam.below b h.lt⟩

theorem bv_new (w : World) (f : Nat → Bool) : Bv w (w.alloc (.cells #[.int .u64 ((wd (f) 0 : Nat) : Int), .int .u64 ((wd (f) 1 : Nat) : Int), .int .u64 ((wd (f) 2 : Nat) : Int), .int .u64 ((wd (f) 3 : Nat) : Int)] 67)) f := by
  obtain ⟨v, hb⟩ := box w f
  have e := hb.eq
  subst e
  exact ⟨hb.bel, by have := hb.size; omega, hb.fam⟩

theorem run1_one (a : Nat) : run1 (a, a) = wrt a aptC := by
  unfold run1
  simp

theorem run1_dash {a b : Nat} (h : a + 1 < b) : run1 (a, b) = (wrt a aptC ++ [45]) ++ wrt b aptC := by
  unfold run1
  simp only
  rw [if_pos h, if_pos (by omega)]
  simp

theorem run1_two {a b : Nat} (h : a < b) (h1 : ¬ a + 1 < b) : run1 (a, b) = wrt a aptC ++ wrt b aptC := by
  unfold run1
  simp only
  rw [if_neg h1, if_pos h]
  simp

set_option maxRecDepth 100000 in
set_option maxHeartbeats 4000000 in
theorem element13S_any (f : Nat → Bool) (w : World) :
    Calls Tryz.prog 75 #[.agg #[.int .u64 ((wd (f) 0 : Nat) : Int), .int .u64 ((wd (f) 1 : Nat) : Int), .int .u64 ((wd (f) 2 : Nat) : Int), .int .u64 ((wd (f) 3 : Nat) : Int)]] w fun e w' => Rdx (elt f) e ∧ Below w.heap.size w w' := by
  obtain ⟨w1, e1⟩ : ∃ w1, w1 = w.alloc (.cells #[.int .u64 ((wd (f) 0 : Nat) : Int), .int .u64 ((wd (f) 1 : Nat) : Int), .int .u64 ((wd (f) 2 : Nat) : Int), .int .u64 ((wd (f) 3 : Nat) : Int)] 67) := ⟨_, rfl⟩
  have hb := bv_new w f
  rw [← e1] at hb
  have E1 : Hid _ := e1
  have DW : Hid (Bv w w1 f) := hb
  obtain ⟨a0, a1, a2, a3⟩ := c4 hb.fam
  have CZ : Hid _ := fun (v : World) => refSize_any f v
  clear e1 hb
  by_cases h0 : cb f 0 256 = 0
  · have HF : Hid _ := elt_zero h0
    rw [h0] at CZ
    go_enter Tryz.func75, Tryz.ntmps75
    go_wp2_with (first | rw [← E1.out])
    refine Calls.mono (CZ.out w1) ?_; rintro e w2 ⟨rfl, b2⟩
    have D2 : Hid (Bv w w2 f) := DW.out.grow b2
    clear b2
    go_wp2_with fail
    refine bodyPost_ret (results_tmp2 rfl _ _ _) rfl ?_
    exact ⟨by unfold Rdx; rw [HF.out]; rfl, D2.out.bel⟩
  · by_cases h256 : cb f 0 256 = 256
    · have HF : Hid (elt f = some [63]) := by show _ = _; unfold elt; rw [if_neg h0, if_pos h256]
      rw [h256] at CZ
      go_enter Tryz.func75, Tryz.ntmps75
      go_wp2_with (first | rw [← E1.out])
      refine Calls.mono (CZ.out w1) ?_; rintro e w2 ⟨rfl, b2⟩
      have D2 : Hid (Bv w w2 f) := DW.out.grow b2
      clear b2 a0 a1 a2 a3
      obtain ⟨a0, a1, a2, a3⟩ := c4 D2.out.fam
      go_wp2_with fail
      refine Calls.mono (CZ.out w2) ?_; rintro e w3 ⟨rfl, b3⟩
      have D3 : Hid (Bv w w3 f) := D2.out.grow b3
      clear b3
      go_wp2_with fail
      refine bodyPost_ret (results_tmp2 rfl _ _ _) rfl ?_
      exact ⟨by unfold Rdx; rw [HF.out]; rfl, D3.out.bel⟩
    · have hZ0 : (((cb f 0 256 : Nat) : Int) == 0) = false := beq_eq_false_iff_ne.2 (by omega)
      have hZ1 : (((cb f 0 256 : Nat) : Int) == 256) = false := beq_eq_false_iff_ne.2 (by omega)
      have CS : Hid _ := fun (v : World) => refSingle_any f v
      have H0 : Hid (cb f 0 256 ≠ 0 ∧ cb f 0 256 ≠ 256) := ⟨h0, h256⟩
      clear h0 h256
      generalize hcc : cb f 0 256 = cc at CZ hZ0 hZ1
      clear hcc
      go_enter Tryz.func75, Tryz.ntmps75
      go_wp2_with (first | rw [← E1.out])
      refine Calls.mono (CZ.out w1) ?_; rintro e w2 ⟨rfl, b2⟩
      have D2 : Hid (Bv w w2 f) := DW.out.grow b2
      clear b2 a0 a1 a2 a3 DW E1
      obtain ⟨a0, a1, a2, a3⟩ := c4 D2.out.fam
      go_wp2_with fail
      refine Calls.mono (CZ.out w2) ?_; rintro e w3 ⟨rfl, b3⟩
      have D3 : Hid (Bv w w3 f) := D2.out.grow b3
      clear b3 a0 a1 a2 a3 D2
      obtain ⟨a0, a1, a2, a3⟩ := c4 D3.out.fam
      go_wp2_with fail
      refine Calls.mono (CS.out w3) ?_; rintro e w5 ⟨⟨b, t, hsg, hbl, rfl⟩, b5⟩
      have D5 : Hid (Bv w w5 f) := D3.out.grow b5
      obtain ⟨hb, ht⟩ := sgl_eq hsg
      clear D3 b5 CS hsg a0 a1 a2 a3 hZ0 hZ1 CZ
      cases hs : t with
      | true =>
        rw [ht] at hs
        have HF : Hid _ := elt_one H0.out.1 H0.out.2 hs
        rw [← hb] at HF
        have CW : Hid _ := fun (v : World) => written13_any aptET aptE isin_aptE (by decide) b hbl v
        unfold aptET at CW
        obtain ⟨tx, htx⟩ : ∃ tx, tbs (wrt b aptE) = tx := ⟨_, rfl⟩
        rw [htx] at CW
        clear hs ht hb
        go_wp2_with fail
        refine Calls.mono (CW.out w5) ?_; rintro e w4 ⟨rfl, b4⟩
        have D4 : Hid (Bv w w4 f) := D5.out.grow b4
        clear b4
        go_wp2_with fail
        refine bodyPost_ret (results_tmp2 rfl _ _ _) rfl ?_
        exact ⟨by unfold Rdx; rw [HF.out, ← htx]; rfl, D4.out.bel⟩
      | false =>
        rw [ht] at hs
        obtain ⟨a0, a1, a2, a3⟩ := c4 D5.out.fam
        have CR : Hid _ := refRuns_any f w5
        clear ht hb hbl
        go_wp2_with fail
        refine Calls.mono CR.out ?_; rintro e w4 ⟨v, rfl, ho, b4⟩
        have D4 : Hid (Bv w w4 f) := D5.out.grow b4
        obtain ⟨ao, c, rfl, hrd⟩ := ownP_read ho
        have HRD : Hid _ := hrd
        clear D5 b4 CR ho hrd a0 a1 a2 a3
        have HF : Hid _ := elt_runs H0.out.1 H0.out.2 hs
        have hl256 := rr_len f 256
        have HLT : Hid _ := rr_lt f 256
        clear hs
        obtain ⟨L, hL⟩ : ∃ L, rr f 256 = L := ⟨_, rfl⟩
        rw [hL] at HRD hl256 HLT HF ⊢
        clear hL
        obtain ⟨n, hn⟩ : ∃ n, L.length = n := ⟨_, rfl⟩
        have HN : Hid (L.length = n) := hn
        rw [hn] at hl256 ⊢
        clear hn
        go_wp2_with fail
        go_loopw [6, 8] (fun vt vk wr => Below w4.heap.size w4 wr ∧ ∃ k : Nat, k ≤ n ∧ vk = .int .i64 (k : Int) ∧ vt = .string (tbs (91 :: runs1 (L.take k)))) (fun _ vk _ => n - (intOf vk).toNat)
        case atStart => exact ⟨Below.refl _ _, 0, Nat.zero_le _, rfl, rfl⟩
        case round =>
          obtain ⟨hbel, k, hk, rfl, rfl⟩ := hrel
          have HB : Hid (Below w4.heap.size w4 wr) := hbel
          have hlt := runs1_le (L.take k)
          rw [List.length_take] at hlt
          clear hbel
          by_cases hkn : k < n
          · have hkI : (k : Int) < (n : Int) := by omega
            have hkL : k < L.length := by rw [HN.out]; exact hkn
            obtain ⟨g, rfl, c0, c1⟩ := HRD.out wr HB.out k hkL
            obtain ⟨r, hr0⟩ : ∃ r, L[k] = r := ⟨_, rfl⟩
            obtain ⟨x, y⟩ := r
            have hr := hr0
            clear hr0
            have hrl : x ≤ y ∧ y < 256 := by have := HLT.out _ (List.getElem_mem hkL); rw [hr] at this; exact this
            rw [hr] at c0 c1
            simp only at c0 c1
            have HTK : Hid (runs1 (L.take (k + 1)) = runs1 (L.take k) ++ run1 (x, y)) := by show _ = _; rw [runs1_take L k hkL, hr]
            have CA : Hid _ := fun (v : World) => written13_any aptCT aptC isin_aptC (by decide) x (by omega) v
            have CB : Hid _ := fun (v : World) => written13_any aptCT aptC isin_aptC (by decide) y hrl.2 v
            unfold aptCT at CA CB
            have lx := wrt_le x aptC
            have ly := wrt_le y aptC
            have cx : IntKind.i64.wrap (x : Int) = (x : Int) := by rw [IntKind.wrap_i64]; omega
            have cy : IntKind.i64.wrap (y : Int) = (y : Int) := by rw [IntKind.wrap_i64]; omega
            have cx1 : IntKind.i64.wrap ((x : Int) + 1) = (x : Int) + 1 := by rw [IntKind.wrap_i64]; omega
            have A1 := add_tbs (91 :: runs1 (L.take k)) (wrt x aptC) (by simp; omega)
            by_cases hxy : x = y
            · subst hxy
              have g1 : ¬ (x : Int) + 1 < (x : Int) := by omega
              have g2 : ¬ (x : Int) < (x : Int) := by omega
              have HT3 : Hid (tbs ((91 :: runs1 (L.take k)) ++ wrt x aptC) = tbs (91 :: runs1 (L.take (k + 1)))) := by show _ = _; rw [HTK.out, run1_one]; rfl
              generalize tbs ((91 :: runs1 (L.take k)) ++ wrt x aptC) = t3 at *
              generalize tbs (91 :: runs1 (L.take k)) = t at *
              generalize tbs (wrt x aptC) = u at *
              clear HTK
              go_wp2_with fail
              refine Calls.mono (CA.out wr) ?_; rintro e w6 ⟨rfl, b6⟩
              have HB6 : Hid (Below w4.heap.size w4 w6) := HB.out.trans (b6.mono HB.out.size)
              clear b6 c0 c1
              go_wp2_with fail
              go_roundw
              case rel => exact ⟨HB6.out, k + 1, by omega, by go_num, by rw [← HT3.out]⟩
              case measure => simp [intOf]; omega
            · by_cases h1 : x + 1 < y
              · have g1 : (x : Int) + 1 < (y : Int) := by omega
                have g2 : (x : Int) < (y : Int) := by omega
                have A2 := add_tbs ((91 :: runs1 (L.take k)) ++ wrt x aptC) [45] (by simp; omega)
                have A3 := add_tbs (((91 :: runs1 (L.take k)) ++ wrt x aptC) ++ [45]) (wrt y aptC) (by simp; omega)
                rw [show tbs [45] = ⟨#[45]⟩ from rfl] at A2
                have HT3 : Hid (tbs ((((91 :: runs1 (L.take k)) ++ wrt x aptC) ++ [45]) ++ wrt y aptC) = tbs (91 :: runs1 (L.take (k + 1)))) := by show _ = _; rw [HTK.out, run1_dash h1]; simp
                generalize tbs ((((91 :: runs1 (L.take k)) ++ wrt x aptC) ++ [45]) ++ wrt y aptC) = t5 at *
                generalize tbs (((91 :: runs1 (L.take k)) ++ wrt x aptC) ++ [45]) = t4 at *
                generalize tbs ((91 :: runs1 (L.take k)) ++ wrt x aptC) = t3 at *
                generalize tbs (91 :: runs1 (L.take k)) = t at *
                generalize tbs (wrt x aptC) = u at *
                generalize tbs (wrt y aptC) = u2 at *
                clear HTK
                go_wp2_with fail
                refine Calls.mono (CA.out wr) ?_; rintro e w6 ⟨rfl, b6⟩
                have HB6 : Hid (Below w4.heap.size w4 w6) := HB.out.trans (b6.mono HB.out.size)
                clear b6 c0 c1
                obtain ⟨g2, hg2, c0, c1⟩ := HRD.out w6 HB6.out k hkL
                obtain rfl : g = g2 := by injection hg2 with h; injection h
                rw [hr] at c0 c1
                simp only at c0 c1
                go_wp2_with fail
                refine Calls.mono (CB.out w6) ?_; rintro e w7 ⟨rfl, b7⟩
                have HB7 : Hid (Below w4.heap.size w4 w7) := HB6.out.trans (b7.mono HB6.out.size)
                clear b7 c0 c1
                go_wp2_with fail
                go_roundw
                case rel => exact ⟨HB7.out, k + 1, by omega, by go_num, by rw [← HT3.out]⟩
                case measure => simp [intOf]; omega
              · have g1 : ¬ (x : Int) + 1 < (y : Int) := by omega
                have g2 : (x : Int) < (y : Int) := by omega
                have A3 := add_tbs ((91 :: runs1 (L.take k)) ++ wrt x aptC) (wrt y aptC) (by simp; omega)
                have HT3 : Hid (tbs (((91 :: runs1 (L.take k)) ++ wrt x aptC) ++ wrt y aptC) = tbs (91 :: runs1 (L.take (k + 1)))) := by show _ = _; rw [HTK.out, run1_two (by omega) h1]; simp
                generalize tbs (((91 :: runs1 (L.take k)) ++ wrt x aptC) ++ wrt y aptC) = t5 at *
                generalize tbs ((91 :: runs1 (L.take k)) ++ wrt x aptC) = t3 at *
                generalize tbs (91 :: runs1 (L.take k)) = t at *
                generalize tbs (wrt x aptC) = u at *
                generalize tbs (wrt y aptC) = u2 at *
                clear HTK
                go_wp2_with fail
                refine Calls.mono (CA.out wr) ?_; rintro e w6 ⟨rfl, b6⟩
                have HB6 : Hid (Below w4.heap.size w4 w6) := HB.out.trans (b6.mono HB.out.size)
                clear b6 c0 c1
                obtain ⟨g2, hg2, c0, c1⟩ := HRD.out w6 HB6.out k hkL
                obtain rfl : g = g2 := by injection hg2 with h; injection h
                rw [hr] at c0 c1
                simp only at c0 c1
                go_wp2_with fail
                refine Calls.mono (CB.out w6) ?_; rintro e w7 ⟨rfl, b7⟩
                have HB7 : Hid (Below w4.heap.size w4 w7) := HB6.out.trans (b7.mono HB6.out.size)
                clear b7 c0 c1
                go_wp2_with fail
                go_roundw
                case rel => exact ⟨HB7.out, k + 1, by omega, by go_num, by rw [← HT3.out]⟩
                case measure => simp [intOf]; omega
          · obtain rfl : k = n := by omega
            have e : L.take k = L := by rw [List.take_of_length_le (by rw [HN.out]; exact Nat.le_refl _)]
            rw [e] at hlt ⊢
            have hl9 := runs1_le L
            have AD := add_tbs (91 :: runs1 L) [93] (by simp; omega)
            rw [show tbs [93] = ⟨#[93]⟩ from rfl] at AD
            have HFT : Hid (tbs ((elt f).getD []) = tbs ((91 :: runs1 L) ++ [93]) ∧ (elt f).isSome = true) := by
              show _ ∧ _
              rw [HF.out]
              exact ⟨rfl, rfl⟩
            generalize tbs ((91 :: runs1 L) ++ [93]) = t2 at *
            generalize tbs (91 :: runs1 L) = t at *
            have BR : Hid (Below w.heap.size w wr) := D4.out.bel.trans (HB.out.mono D4.out.bel.size)
            clear e HRD HLT
            go_wp2_with fail
            refine bodyPost_ret (results_tmp2 rfl _ _ _) rfl ?_
            exact ⟨by unfold Rdx; rw [HFT.out.1, HFT.out.2]; rfl, BR.out⟩

end Cls

end Go.Proofs.YtbnnobeahliffaaGreatDoor

set_option linter.unusedVariables false
namespace Go.Proofs.YtbnnobeahliffaaGreatDoor
open Go.RowKit
namespace Cls

/-- The digits ahead of the last one. -/
def dpr (n : Nat) : List Nat := if n < 10 then [] else dgs (n / 10)

theorem dgs_dpr (n : Nat) : dgs n = dpr n ++ [48 + n % 10] := by
  unfold dpr
  by_cases h : n < 10
  · rw [if_pos h, dgs_one h, show n % 10 = n by omega]; rfl
  · rw [if_neg h, dgs_more h]

set_option maxRecDepth 100000 in
set_option maxHeartbeats 2000000 in
theorem digits13_any (n0 : Nat) (hn0 : n0 ≤ 1000000) (w : World) :
    Calls Tryz.prog 53 #[.int .i64 (n0 : Int)] w fun e w' => e = .returned (.string (tbs (dgs n0))) ∧ Below w.heap.size w w' := by
  have CD : Hid _ := fun (m : Nat) (hm : m < 10) (v : World) => digit13_any m (by omega) v
  have hd0 : hexd (n0 % 10) = 48 + n0 % 10 := by unfold hexd; rw [if_pos (by omega)]
  have C0 : Hid _ := fun (v : World) => CD.out (n0 % 10) (by omega) v
  rw [hd0] at C0
  have HS0 : Hid (dgs n0 = dpr n0 ++ [48 + n0 % 10]) := dgs_dpr n0
  have hr0 : (n0 : Int).tmod 10 = ((n0 % 10 : Nat) : Int) := rfl
  have l7 := dgs_le7 hn0
  clear hd0
  obtain ⟨m0, hm0⟩ : ∃ m0, n0 % 10 = m0 := ⟨_, rfl⟩
  have h10 : m0 < 10 := by omega
  rw [hm0] at C0 hr0 HS0
  clear hm0
  go_enter Tryz.func53, Tryz.ntmps53
  go_wp2_with fail
  refine Calls.mono (C0.out w) ?_; rintro e w2 ⟨rfl, b2⟩
  have B2 : Hid _ := b2
  clear b2
  go_wp2_with fail
  go_loopw [0, 3] (fun vn vt wr => Below w.heap.size w wr ∧ ∃ (n : Nat) (S : List Nat), vn = .int .i64 (n : Int) ∧ vt = .string (tbs S) ∧ n ≤ n0 ∧ dgs n0 = dpr n ++ S) (fun vn _ _ => (intOf vn).toNat)
  case atStart => exact ⟨B2.out, n0, [48 + m0], rfl, rfl, Nat.le_refl _, HS0.out⟩
  case round =>
    obtain ⟨hbel, n, S, rfl, rfl, hle, hS⟩ := hrel
    have HB : Hid _ := hbel
    have HS : Hid (dgs n0 = dpr n ++ S) := hS
    have hlen : S.length ≤ 7 := by
      have := congrArg List.length hS
      rw [List.length_append] at this
      omega
    clear hbel hS HS0 C0
    by_cases hn : n < 10
    · have hI : ¬ 10 ≤ (n : Int) := by omega
      have HF : Hid (S = dgs n0) := by show _ = _; rw [HS.out]; unfold dpr; rw [if_pos hn]; rfl
      go_wp2_with fail
      go_ret
      exact ⟨by rw [← HF.out]; rfl, HB.out⟩
    · have hI : 10 ≤ (n : Int) := by omega
      obtain ⟨m, hm⟩ : ∃ m, n / 10 = m := ⟨_, rfl⟩
      have hq : (n : Int).tdiv 10 = (m : Int) := by rw [← hm]; rfl
      have hr : (m : Int).tmod 10 = ((m % 10 : Nat) : Int) := rfl
      have hd : hexd (m % 10) = 48 + m % 10 := by unfold hexd; rw [if_pos (by omega)]
      have C1 : Hid _ := fun (v : World) => CD.out (m % 10) (by omega) v
      rw [hd] at C1
      have AD := add_tbs [48 + m % 10] S (by simp; omega)
      have HS2 : Hid (dgs n0 = dpr m ++ ([48 + m % 10] ++ S)) := by
        show _ = _
        rw [HS.out]
        have : dpr n = dgs m := by unfold dpr; rw [if_neg hn, hm]
        rw [this, dgs_dpr m, List.append_assoc]
      obtain ⟨m1, hm1⟩ : ∃ m1, m % 10 = m1 := ⟨_, rfl⟩
      have hm10 : m1 < 10 := by omega
      have hmn : m < n := by omega
      rw [hm1] at C1 hr AD HS2
      clear hm1 hd hm
      obtain ⟨t1, ht1⟩ : ∃ t1, tbs ([48 + m1] ++ S) = t1 := ⟨_, rfl⟩
      have HT1 : Hid _ := ht1
      rw [ht1] at AD
      clear ht1
      generalize tbs [48 + m1] = t2 at *
      generalize tbs S = t3 at *
      go_wp2_with fail
      refine Calls.mono (C1.out wr) ?_; rintro e w3 ⟨rfl, b3⟩
      have HB3 : Hid (Below w.heap.size w w3) := HB.out.trans (b3.mono HB.out.size)
      clear b3
      go_wp2_with fail
      go_roundw
      case rel => exact ⟨HB3.out, m, [48 + m1] ++ S, rfl, by rw [HT1.out], by omega, HS2.out⟩
      case measure => simp [intOf]; omega

/-- A token in a box on the way. -/
structure Qw (w wk : World) (xk xa xn : Int) (xo : Option Addr) (xp : List (Nat → Bool)) (xc : Nat) : Prop where
  bel : Below w.heap.size w wk
  k : K4 wk w.heap.size (.int .i64 xk) (.int .i64 xa) (.int .i64 xn) (.slice xo xp.length xc)
  lf : Lf wk xo xp.length (at' xp)

theorem Qw.grow {w wk v : World} {xk xa xn : Int} {xo : Option Addr} {xp : List (Nat → Bool)} {xc : Nat} (h : Qw w wk xk xa xn xo xp xc) (b : Below wk.heap.size wk v) : Qw w v xk xa xn xo xp xc :=
  ⟨h.bel.trans (b.mono h.bel.size), h.k.keep b, h.lf.grow b⟩

theorem sg7_cut (k : Nat) (h1 : 1 ≤ k) (h7 : k ≤ 7) : (⟨#[40, 41, 38, 124, 33, 62, 126]⟩ : ByteArray).extract (k - 1) k = tbs [sg8 k] := by
  have h : ∀ j, j < 7 → (⟨#[40, 41, 38, 124, 33, 62, 126]⟩ : ByteArray).extract j (j + 1) = tbs [sg8 (j + 1)] := by decide
  have := h (k - 1) (by omega)
  rwa [show k - 1 + 1 = k by omega] at this

theorem elt_isSome (f : Nat → Bool) : (elt f).isSome = decide (cb f 0 256 ≠ 0) := by
  by_cases h : cb f 0 256 = 0
  · rw [elt_zero h]; simp [h]
  · obtain ⟨T, hT⟩ := elt_some h
    rw [hT]; simp [h]

theorem prI_pat' {t : Ti} (h8 : t.kind = 8) : prI t = if t.n = 0 ∧ (1 ≤ t.p.length ∧ t.p.length ≤ 64) ∧ ∀ f ∈ t.p, cb f 0 256 ≠ 0 then some (34 :: (eTx t.p ++ [34])) else none := by
  rw [prI_pat h8]
  have hr : rgt (at' t.p) t.p.length 0 = true ↔ (1 ≤ t.p.length ∧ t.p.length ≤ 64) ∧ ∀ f ∈ t.p, cb f 0 256 ≠ 0 := by
    unfold rgt
    rw [Bool.and_eq_true, decide_eq_true_eq, Bool.not_eq_true', ← Bool.not_eq_true, emp_at]
    constructor
    · rintro ⟨⟨a, b, _⟩, h⟩
      exact ⟨⟨a, b⟩, fun f hf e => h ⟨f, hf, e⟩⟩
    · rintro ⟨⟨a, b⟩, h⟩
      exact ⟨⟨a, b, by omega, by omega⟩, fun ⟨f, hf, e⟩ => h f hf e⟩
  by_cases h : t.n = 0 ∧ rgt (at' t.p) t.p.length 0 = true
  · rw [if_pos h, if_pos ⟨h.1, hr.1 h.2⟩]
  · rw [if_neg h, if_neg (fun e => h ⟨e.1, hr.2 e.2⟩)]

set_option maxRecDepth 100000 in
set_option maxHeartbeats 4000000 in
theorem print13_any (x : Tv) (w : World) (hx : x.ok w) :
    Calls Tryz.prog 52 #[x.val] w fun e w' => Rdx (prI x.i) e ∧ Below w.heap.size w w' := by
  obtain ⟨⟨xk, xa, xn, xp⟩, xo, xc⟩ := x
  unfold Tv.ok at hx
  simp only at hx
  unfold Tv.val
  simp only
  obtain ⟨w1, e1⟩ : ∃ w1, w1 = w.alloc (.cells #[.int .i64 xk, .int .i64 xa, .int .i64 xn, .slice xo xp.length xc] 56) := ⟨_, rfl⟩
  have b1 : Below w.heap.size w w1 := by rw [e1]; exact al_below _ _
  have q1 : K4 w1 w.heap.size (.int .i64 xk) (.int .i64 xa) (.int .i64 xn) (.slice xo xp.length xc) := by rw [e1]; exact k4_new _ _ _ _ _ _
  have D1 : Hid (Qw w w1 xk xa xn xo xp xc) := ⟨b1, q1, hx.grow b1⟩
  have E1 : Hid _ := e1
  clear e1 b1 q1 hx
  obtain ⟨a0, a1, a2, a3⟩ := D1.out.k
  obtain ⟨l, hl⟩ : ∃ l, xp.length = l := ⟨_, rfl⟩
  have HL : Hid (xp.length = l) := hl
  have hsm := D1.out.lf.small
  rw [hl] at a3 E1 hsm ⊢
  by_cases h1 : xk < 1
  · have HF : Hid (prI ⟨xk, xa, xn, xp⟩ = none) := prI_out (.inl h1)
    go_enter Tryz.func52, Tryz.ntmps52
    go_wp2_with (first | rw [← E1.out])
    refine bodyPost_ret (results_tmp2 rfl _ _ _) rfl ?_
    exact ⟨by unfold Rdx; rw [HF.out]; rfl, D1.out.bel⟩
  · by_cases h8 : 8 < xk
    · have HF : Hid (prI ⟨xk, xa, xn, xp⟩ = none) := prI_out (.inr h8)
      go_enter Tryz.func52, Tryz.ntmps52
      go_wp2_with (first | rw [← E1.out])
      refine bodyPost_ret (results_tmp2 rfl _ _ _) rfl ?_
      exact ⟨by unfold Rdx; rw [HF.out]; rfl, D1.out.bel⟩
    · by_cases hn0 : xn < 0
      · have HF : Hid (prI ⟨xk, xa, xn, xp⟩ = none) := by show _ = _; unfold prI; rw [if_pos (.inr (.inr (.inl hn0)))]
        go_enter Tryz.func52, Tryz.ntmps52
        go_wp2_with (first | rw [← E1.out])
        refine bodyPost_ret (results_tmp2 rfl _ _ _) rfl ?_
        exact ⟨by unfold Rdx; rw [HF.out]; rfl, D1.out.bel⟩
      · by_cases hn1 : 1000000 < xn
        · have HF : Hid (prI ⟨xk, xa, xn, xp⟩ = none) := by show _ = _; unfold prI; rw [if_pos (.inr (.inr (.inr hn1)))]
          go_enter Tryz.func52, Tryz.ntmps52
          go_wp2_with (first | rw [← E1.out])
          refine bodyPost_ret (results_tmp2 rfl _ _ _) rfl ?_
          exact ⟨by unfold Rdx; rw [HF.out]; rfl, D1.out.bel⟩
        · obtain ⟨k, rfl⟩ : ∃ k : Nat, xk = (k : Int) := ⟨xk.toNat, by omega⟩
          obtain ⟨n, rfl⟩ : ∃ n : Nat, xn = (n : Int) := ⟨xn.toNat, by omega⟩
          have g1 : ¬ (k : Int) < 1 := by omega
          have g2 : ¬ 8 < (k : Int) := by omega
          have g3 : ¬ (n : Int) < 0 := by omega
          have g4 : ¬ 1000000 < (n : Int) := by omega
          have hka : ((k : Int) - 1).toNat = k - 1 := by omega
          have hkb : ((k : Int)).toNat = k := by omega
          have hwk : IntKind.i64.wrap ((k : Int) - 1) = (k : Int) - 1 := by rw [IntKind.wrap_i64]; omega
          have hb1 : (0 : Int) ≤ (k : Int) - 1 := by omega
          have hb2 : (k : Int) - 1 ≤ (k : Int) := by omega
          by_cases hk8 : k = 8
          · have h8I : ((k : Int) == 8) = true := beq_iff_eq.2 (by omega)
            by_cases hnz : n = 0
            · have hnI : ((n : Int) != 0) = false := by simp [hnz]
              by_cases hl1 : l < 1
              · have HF : Hid (prI ⟨k, xa, n, xp⟩ = none) := by show _ = _; rw [prI_pat' (show (k : Int) = 8 by omega)]; exact if_neg (fun e => by have := e.2.1.1; simp only at this; omega)
                have hl1I : (l : Int) < 1 := by omega
                clear hk8 hnz hl1
                go_enter Tryz.func52, Tryz.ntmps52
                go_wp2_with (first | rw [← E1.out])
                refine bodyPost_ret (results_tmp2 rfl _ _ _) rfl ?_
                exact ⟨by unfold Rdx; rw [HF.out]; rfl, D1.out.bel⟩
              · by_cases hl64 : 64 < l
                · have HF : Hid (prI ⟨k, xa, n, xp⟩ = none) := by show _ = _; rw [prI_pat' (show (k : Int) = 8 by omega)]; exact if_neg (fun e => by have := e.2.1.2; simp only at this; omega)
                  have hl1I : ¬ (l : Int) < 1 := by omega
                  have hl2I : 64 < (l : Int) := by omega
                  clear hk8 hnz hl1 hl64
                  go_enter Tryz.func52, Tryz.ntmps52
                  go_wp2_with (first | rw [← E1.out])
                  refine bodyPost_ret (results_tmp2 rfl _ _ _) rfl ?_
                  exact ⟨by unfold Rdx; rw [HF.out]; rfl, D1.out.bel⟩
                · have hl1I : ¬ (l : Int) < 1 := by omega
                  have hl2I : ¬ 64 < (l : Int) := by omega
                  have HP : Hid (prI ⟨k, xa, n, xp⟩ = if ∀ f ∈ xp, cb f 0 256 ≠ 0 then some (34 :: (eTx xp ++ [34])) else none) := by
                    show _ = _
                    rw [prI_pat' (show (k : Int) = 8 by omega)]
                    by_cases h : ∀ f ∈ xp, cb f 0 256 ≠ 0
                    · rw [if_pos ⟨by simp only; omega, ⟨by simp only; omega, by simp only; omega⟩, h⟩, if_pos h]
                    · rw [if_neg (fun e => h e.2.2), if_neg h]
                  clear hk8 hnz
                  go_enter Tryz.func52, Tryz.ntmps52
                  go_wp2_with (first | rw [← E1.out])
                  go_loopw [4, 5] (fun vt vk wr => Qw w wr k xa n xo xp xc ∧ ∃ j : Nat, j ≤ l ∧ vk = .int .i64 (j : Int) ∧ vt = .string (tbs (eTx (xp.take j))) ∧ ∀ t, (h : t < xp.length) → t < j → cb xp[t] 0 256 ≠ 0) (fun _ vk _ => l - (intOf vk).toNat)
                  case atStart => exact ⟨D1.out, 0, Nat.zero_le _, rfl, rfl, fun t _ h => by omega⟩
                  case round =>
                    obtain ⟨hD, j, hj, rfl, rfl, hall⟩ := hrel
                    have DR : Hid (Qw w wr k xa n xo xp xc) := hD
                    have HA : Hid (∀ t, (h : t < xp.length) → t < j → cb xp[t] 0 256 ≠ 0) := hall
                    have hle := eTx_le (xp.take j)
                    rw [List.length_take] at hle
                    clear hD a0 a1 a2 a3 hall
                    obtain ⟨a0, a1, a2, a3⟩ := DR.out.k
                    rw [HL.out] at a3
                    by_cases hjn : j < l
                    · have hjI : (j : Int) < (l : Int) := by omega
                      have hjL : j < xp.length := by rw [HL.out]; exact hjn
                      obtain ⟨g, o, rfl, _, hC⟩ := DR.out.lf.lies (by omega)
                      obtain ⟨c0, c1, c2, c3⟩ := hC.four hjL
                      obtain ⟨f, hf⟩ : ∃ f, at' xp j = f := ⟨_, rfl⟩
                      rw [hf] at c0 c1 c2 c3
                      have hget : xp[j] = f := by rw [← hf, at_get hjL]
                      have CE : Hid _ := fun (v : World) => element13S_any f v
                      unfold Rdx at CE
                      have h24 := elt_le f
                      by_cases hz : cb f 0 256 = 0
                      · have HF : Hid (prI ⟨k, xa, n, xp⟩ = none) := by show _ = _; rw [HP.out, if_neg (fun h => h f (by rw [← hget]; exact List.getElem_mem hjL) hz)]
                        rw [show (elt f).isSome = false by rw [elt_zero hz]; rfl] at CE
                        generalize tbs (eTx (xp.take j)) = t at *
                        generalize tbs ((elt f).getD []) = u at *
                        clear hC hget hf hz
                        go_wp2_with fail
                        refine Calls.mono (CE.out wr) ?_; rintro e w6 ⟨rfl, b6⟩
                        have D6 : Hid (Qw w w6 k xa n (some ⟨g, o, none⟩) xp xc) := DR.out.grow b6
                        clear b6
                        go_wp2_with fail
                        refine bodyPost_ret (results_tmp2 rfl _ _ _) rfl ?_
                        exact ⟨by unfold Rdx; rw [HF.out]; rfl, D6.out.bel⟩
                      · rw [show (elt f).isSome = true by rw [elt_isSome]; simp [hz]] at CE
                        have AD := add_tbs (eTx (xp.take j)) ((elt f).getD []) (by omega)
                        have HT3 : Hid (tbs (eTx (xp.take j) ++ (elt f).getD []) = tbs (eTx (xp.take (j + 1)))) := by show _ = _; rw [eTx_take xp j hjL, hget]
                        have HA2 : Hid (∀ t, (h : t < xp.length) → t < j + 1 → cb xp[t] 0 256 ≠ 0) := fun t h ht => by
                          by_cases e : t = j
                          · subst e; rw [hget]; exact hz
                          · exact HA.out t h (by omega)
                        generalize tbs (eTx (xp.take j) ++ (elt f).getD []) = t3 at *
                        generalize tbs (eTx (xp.take j)) = t at *
                        generalize tbs ((elt f).getD []) = u at *
                        clear hC hget hf hz
                        go_wp2_with fail
                        refine Calls.mono (CE.out wr) ?_; rintro e w6 ⟨rfl, b6⟩
                        have D6 : Hid (Qw w w6 k xa n (some ⟨g, o, none⟩) xp xc) := DR.out.grow b6
                        clear b6
                        go_wp2_with fail
                        go_roundw
                        case rel => exact ⟨D6.out, j + 1, by omega, by go_num, by rw [← HT3.out], HA2.out⟩
                        case measure => simp [intOf]; omega
                    · obtain rfl : j = l := by omega
                      have hjI : ¬ (j : Int) < (j : Int) := by omega
                      have e : xp.take j = xp := by rw [List.take_of_length_le (by rw [HL.out]; exact Nat.le_refl _)]
                      rw [e] at hle ⊢
                      have hl9 := eTx_le xp
                      rw [HL.out] at hl9
                      have HF : Hid (prI ⟨k, xa, n, xp⟩ = some (([34] ++ eTx xp) ++ [34])) := by
                        show _ = _
                        rw [HP.out, if_pos]
                        · simp
                        · intro f hf
                          obtain ⟨t, ht, rfl⟩ := List.getElem_of_mem hf
                          exact HA.out t ht (by rw [← HL.out]; exact ht)
                      have A1 := add_tbs [34] (eTx xp) (by simp; omega)
                      have A2 := add_tbs ([34] ++ eTx xp) [34] (by simp; omega)
                      have HFT : Hid (tbs ((prI ⟨k, xa, n, xp⟩).getD []) = tbs (([34] ++ eTx xp) ++ [34]) ∧ (prI ⟨k, xa, n, xp⟩).isSome = true) := by
                        show _ ∧ _
                        rw [HF.out]
                        exact ⟨rfl, rfl⟩
                      generalize tbs (([34] ++ eTx xp) ++ [34]) = t2 at *
                      generalize tbs ([34] ++ eTx xp) = t1 at *
                      rw [show tbs [34] = ⟨#[34]⟩ from rfl] at A1 A2
                      generalize tbs (eTx xp) = t at *
                      clear e
                      go_wp2_with fail
                      refine bodyPost_ret (results_tmp2 rfl _ _ _) rfl ?_
                      exact ⟨by unfold Rdx; rw [HFT.out.1, HFT.out.2]; rfl, DR.out.bel⟩
            · have HF : Hid (prI ⟨k, xa, n, xp⟩ = none) := by show _ = _; rw [prI_pat' (show (k : Int) = 8 by omega)]; exact if_neg (fun e => by have := e.1; simp only at this; omega)
              have hnI : ((n : Int) != 0) = true := by
                have : ¬ (n : Int) = 0 := by omega
                simpa using this
              clear hk8 hnz
              go_enter Tryz.func52, Tryz.ntmps52
              go_wp2_with (first | rw [← E1.out])
              refine bodyPost_ret (results_tmp2 rfl _ _ _) rfl ?_
              exact ⟨by unfold Rdx; rw [HF.out]; rfl, D1.out.bel⟩
          · have h8I : ((k : Int) == 8) = false := beq_eq_false_iff_ne.2 (by omega)
            have hcut := sg7_cut k (by omega) (by omega)
            have hb3 : (k : Int) ≤ 7 := by omega
            by_cases hl0 : l = 0
            · have hl0I : ¬ 0 < (l : Int) := by omega
              by_cases hk6 : 6 ≤ k
              · have hk6I : 6 ≤ (k : Int) := by omega
                have HF0 : prI ⟨k, xa, n, xp⟩ = some ([sg8 k] ++ dgs n) := by
                  rw [prI_num (show (k : Int) = 6 ∨ (k : Int) = 7 by omega)]
                  simp only [Int.toNat_natCast]
                  rw [if_pos ⟨by omega, by omega, by rw [HL.out]; exact hl0⟩]
                  rfl
                have hd7 := dgs_le7 (show n ≤ 1000000 by omega)
                have AD := add_tbs [sg8 k] (dgs n) (by simp; omega)
                have CD : Hid _ := fun (v : World) => digits13_any n (by omega) v
                have HFT : Hid (tbs ((prI ⟨k, xa, n, xp⟩).getD []) = tbs ([sg8 k] ++ dgs n) ∧ (prI ⟨k, xa, n, xp⟩).isSome = true) := by
                  show _ ∧ _
                  rw [HF0]
                  exact ⟨rfl, rfl⟩
                generalize tbs ([sg8 k] ++ dgs n) = t3 at *
                generalize tbs (dgs n) = t2 at *
                generalize tbs [sg8 k] = t1 at *
                clear hk6 hl0 HF0
                go_enter Tryz.func52, Tryz.ntmps52
                go_wp2_with (first | rw [← E1.out])
                go_region_held3 (fun w' => w'.cell? ⟨w.heap.size, 0, none⟩ = some (.int .i64 (k : Int)) ∧ w'.cell? ⟨w.heap.size, 2, none⟩ = some (.int .i64 (n : Int))) (go_keep)
                  (first | rw [hka] | rw [hkb] | rw [hcut] | (go_at_call 53; (with_reducible refine Calls.mono (CD.out _) ?_); rintro e w3 ⟨rfl, b3⟩; have b3' : Below w1.heap.size w1 w3 := (by first | exact undrew b3 | exact b3); have D3 : Hid (Qw w w3 k xa n xo xp xc) := D1.out.grow b3'; obtain ⟨m0, m1, m2, m3⟩ := D3.out.k; clear b3 b3'))
                all_goals
                  go_wp2_with (first | rw [hka] | rw [hkb] | rw [hcut])
                  refine bodyPost_ret (results_tmp2 rfl _ _ _) rfl ?_
                  exact ⟨by unfold Rdx; rw [HFT.out.1, HFT.out.2]; rfl, D3.out.bel⟩
              · have hk6I : ¬ 6 ≤ (k : Int) := by omega
                by_cases hnz : n = 0
                · have hnI : ((n : Int) != 0) = false := by simp [hnz]
                  have HF0 : prI ⟨k, xa, n, xp⟩ = some [sg8 k] := by
                    rw [prI_sign (show 1 ≤ (k : Int) by omega) (show (k : Int) ≤ 5 by omega)]
                    simp only [Int.toNat_natCast]
                    rw [if_pos ⟨by omega, by rw [HL.out]; exact hl0⟩]
                  have HFT : Hid (tbs ((prI ⟨k, xa, n, xp⟩).getD []) = tbs [sg8 k] ∧ (prI ⟨k, xa, n, xp⟩).isSome = true) := by
                    show _ ∧ _
                    rw [HF0]
                    exact ⟨rfl, rfl⟩
                  generalize tbs [sg8 k] = t1 at *
                  clear hk6 hl0 hnz HF0
                  go_enter Tryz.func52, Tryz.ntmps52
                  go_wp2_with (first | rw [← E1.out] | rw [hka] | rw [hkb] | rw [hcut])
                  refine bodyPost_ret (results_tmp2 rfl _ _ _) rfl ?_
                  exact ⟨by unfold Rdx; rw [HFT.out.1, HFT.out.2]; rfl, D1.out.bel⟩
                · have hnI : ((n : Int) != 0) = true := by
                    have : ¬ (n : Int) = 0 := by omega
                    simpa using this
                  have HF : Hid (prI ⟨k, xa, n, xp⟩ = none) := by
                    show _ = _
                    rw [prI_sign (show 1 ≤ (k : Int) by omega) (show (k : Int) ≤ 5 by omega)]
                    exact if_neg (fun e => by have := e.1; simp only at this; omega)
                  clear hk6 hl0 hnz
                  go_enter Tryz.func52, Tryz.ntmps52
                  go_wp2_with (first | rw [← E1.out])
                  refine bodyPost_ret (results_tmp2 rfl _ _ _) rfl ?_
                  exact ⟨by unfold Rdx; rw [HF.out]; rfl, D1.out.bel⟩
            · have hl0I : 0 < (l : Int) := by omega
              have HF : Hid (prI ⟨k, xa, n, xp⟩ = none) := by
                show _ = _
                by_cases hk6 : 6 ≤ k
                · rw [prI_num (show (k : Int) = 6 ∨ (k : Int) = 7 by omega)]
                  exact if_neg (fun e => by have := e.2.2; simp only at this; omega)
                · rw [prI_sign (show 1 ≤ (k : Int) by omega) (show (k : Int) ≤ 5 by omega)]
                  exact if_neg (fun e => by have := e.2; simp only at this; omega)
              clear hl0
              go_enter Tryz.func52, Tryz.ntmps52
              go_wp2_with (first | rw [← E1.out])
              refine bodyPost_ret (results_tmp2 rfl _ _ _) rfl ?_
              exact ⟨by unfold Rdx; rw [HF.out]; rfl, D1.out.bel⟩

end Cls

end Go.Proofs.YtbnnobeahliffaaGreatDoor

set_option linter.unusedVariables false
namespace Go.Proofs.YtbnnobeahliffaaGreatDoor
open Go.RowKit
namespace Cls

theorem add_tbq (A B : List Nat) (h : A.length + B.length ≤ 9000000000000000000) : ∀ w : World, (Op.stringOp .add (tbs A) (tbs B)).run Tryz.prog w = .ok (.string (tbs (A ++ B))) w := fun w => by
  rw [run_string_add_sum (P := Tryz.prog) (w := w) _ _ (by rw [tbs_size, tbs_size]; omega), tbs_app]

theorem bracket14_any (is : Bool) (T : List Nat) (h : T.length ≤ 8000000000000000000) (w : World) :
    Calls Tryz.prog 54 #[.bool is, .string (tbs T)] w fun e w' => e = .returned (.string (tbs (brk is T))) ∧ Below w.heap.size w w' := by
  cases is with
  | false =>
    show Calls _ _ _ _ fun e w' => e = .returned (.string (tbs T)) ∧ _
    generalize tbs T = t at *
    go_enter Tryz.func54, Tryz.ntmps54
    go_wp2_with fail
    go_ret
    exact ⟨rfl, Below.refl _ _⟩
  | true =>
    have AX1 := add_tbq [40] T (by simp; omega)
    have AX2 := add_tbq ([40] ++ T) [41] (by simp; omega)
    rw [show tbs [40] = (⟨#[40]⟩ : ByteArray) from rfl] at AX1
    rw [show tbs [41] = (⟨#[41]⟩ : ByteArray) from rfl] at AX2
    show Calls _ _ _ _ fun e w' => e = .returned (.string (tbs (([40] ++ T) ++ [41]))) ∧ _
    generalize tbs (([40] ++ T) ++ [41]) = t2 at *
    generalize tbs ([40] ++ T) = t1 at *
    generalize tbs T = t at *
    go_enter Tryz.func54, Tryz.ntmps54
    go_wp2_with fail
    go_ret
    exact ⟨rfl, Below.refl _ _⟩

theorem txt_le (t : Qt) (h : t.rg) : t.txt.length + 1000 ≤ 200000 * t.flat.length := by
  refine Qt.rind (P := fun t => t.txt.length + 1000 ≤ 200000 * t.flat.length) ?_ ?_ ?_ t h
  · intro x hk hr
    obtain ⟨⟨T, hT⟩, h0, h1, _⟩ := rgn_find hk hr
    have := prt_le hT
    have hd := dgs_le7 (show x.k.toNat ≤ 1000000 by omega)
    rw [Qt.txt0, Qt.flat0, hT, Option.getD_some, List.length_append]
    split
    · simp only [List.length_cons, List.length_nil]; omega
    · simp only [List.length_cons, List.length_nil]; omega
  · intro x a hk hr _ ih
    have hn := rgn_shift hr
    have hd := dgs_le7 (show x.n.toNat ≤ 1000000 by omega)
    rw [Qt.txt1, Qt.flat1, List.length_append, List.length_cons]
    unfold brk
    split <;> split <;> simp only [List.length_cons, List.length_nil, List.length_append] <;> omega
  · intro x a b hk hr _ _ iha ihb
    rw [Qt.txt2, Qt.flat2, List.length_cons, List.length_append]
    unfold brk
    split <;> split <;> (try split) <;> simp only [List.length_cons, List.length_nil, List.length_append] <;> omega

/-- A node's cells. -/
theorem node_at {w : World} {b o : Nat} {L : List Qv} (hC : ∀ t, (h : t < L.length) → Q4 w b (o + t * 4) L[t]) (hok : ∀ x ∈ L, x.ok w) {i : Nat} {y : Qn} {M : List Qn} (h : (qis L).drop i = y :: M) : i < L.length ∧ ∃ ao cap, w.cell? ⟨b, o + i * 4, none⟩ = some (.int .i64 y.kind) ∧ w.cell? ⟨b, o + i * 4 + 1, none⟩ = some (.int .i64 y.n) ∧ w.cell? ⟨b, o + i * 4 + 2, none⟩ = some (.slice ao y.p.length cap) ∧ w.cell? ⟨b, o + i * 4 + 3, none⟩ = some (.int .i64 y.k) ∧ Lf w ao y.p.length (at' y.p) := by
  have hl : i < (qis L).length := by
    rcases Nat.lt_or_ge i (qis L).length with h1 | h1
    · exact h1
    · rw [List.drop_eq_nil_of_le h1] at h; cases h
  have hl2 : i < L.length := by rw [qis_len] at hl; exact hl
  rw [List.drop_eq_getElem_cons hl] at h
  simp only [List.cons.injEq] at h
  have e : L[i].i = y := by rw [← qis_at L i hl2 hl]; exact h.1
  obtain ⟨c0, c1, c2, c3⟩ := hC i hl2
  have hx := hok L[i] (List.getElem_mem hl2)
  unfold Qv.ok at hx
  rw [e] at c0 c1 c2 c3 hx
  exact ⟨hl2, L[i].ao, L[i].cap, c0, c1, c2, c3, hx⟩

theorem isAO_cases (k : Int) : ((k == 2) = true ∧ (k == 3) = false ∧ isAO k = true ∧ decide (k = 3) = false) ∨ ((k == 2) = false ∧ (k == 3) = true ∧ isAO k = true ∧ decide (k = 3) = true) ∨ ((k == 2) = false ∧ (k == 3) = false ∧ isAO k = false ∧ decide (k = 3) = false) := by
  by_cases h2 : k = 2
  · subst h2; exact .inl ⟨rfl, rfl, rfl, rfl⟩
  by_cases h3 : k = 3
  · subst h3; exact .inr (.inl ⟨rfl, rfl, rfl, rfl⟩)
  · exact .inr (.inr ⟨by simpa using h2, by simpa using h3, by unfold isAO; simp [h2, h3], by simpa using h3⟩)

set_option maxRecDepth 100000 in
set_option maxHeartbeats 4000000 in
theorem text14_any (hP : ∀ (x : Tv) (v : World), x.ok v → Calls Tryz.prog 52 #[x.val] v fun e w' => Rdx (prI x.i) e ∧ Below v.heap.size v w') (n cap : Nat) (so : Option Addr) (L : List Qv) (hn : L.length = n) (t : Qt) (ht : t.rg) : ∀ (a' : Nat) (r : List Qn) (w : World), QR w so L → (qis L).drop a' = t.flat ++ r →
    Calls Tryz.prog 29 #[.slice so n cap, .int .i64 (a' : Int)] w fun e w' => e = .returned (.tuple #[.string (tbs t.txt), .int .i64 ((a' + t.flat.length : Nat) : Int)]) ∧ Below w.heap.size w w' := by
  refine Qt.rind (P := fun t => ∀ (a' : Nat) (r : List Qn) (w : World), QR w so L → (qis L).drop a' = t.flat ++ r → Calls Tryz.prog 29 #[.slice so n cap, .int .i64 (a' : Int)] w fun e w' => e = .returned (.tuple #[.string (tbs t.txt), .int .i64 ((a' + t.flat.length : Nat) : Int)]) ∧ Below w.heap.size w w') ?_ ?_ ?_ t ht
  · intro x hk hr a' r w hL hd
    have hn2 : n ≤ 4398046511104 := by have := hL.small; omega
    obtain ⟨⟨T, hT⟩, hk0, hk1, hn0⟩ := rgn_find hk hr
    have hT9 := prt_le hT
    rw [Qt.flat0, List.singleton_append] at hd
    have hlt0 : a' < L.length := by
      rcases Nat.lt_or_ge a' (qis L).length with h1 | h1
      · rw [qis_len] at h1; exact h1
      · rw [List.drop_eq_nil_of_le h1] at hd; cases hd
    obtain ⟨b, o, rfl, hb, hC⟩ := hL.lies (by omega)
    obtain ⟨hlt, ao, c, c0, c1, c2, c3, hlf⟩ := node_at hC hL.ok hd
    have haI : (a' : Int) < (n : Int) := by omega
    have q1 : (x.kind == 1) = true := by simpa using hk
    obtain ⟨kk, hkk⟩ : ∃ kk : Nat, x.k = (kk : Int) := ⟨x.k.toNat, by omega⟩
    have hkn : x.k.toNat = kk := by omega
    have hkb : kk ≤ 64 := by omega
    have CP : Hid (∀ v : World, Below w.heap.size w v → Calls Tryz.prog 52 #[.agg #[.int .i64 8, .int .i64 0, .int .i64 0, .slice ao x.p.length c]] v fun e w' => e = .returned (.tuple #[.string (tbs T), .bool true]) ∧ Below v.heap.size v w') := fun v hv => by
      have h := hP ⟨⟨8, 0, 0, x.p⟩, ao, c⟩ v (hlf.grow hv)
      unfold Tv.val at h
      rw [show prI ⟨8, 0, 0, x.p⟩ = prt ⟨8, 0, 0, x.p⟩ from rfl, hT] at h
      exact h
    rw [Qt.txt0, Qt.flat0, hT, Option.getD_some, hkn, hkk]
    rw [hkk] at c3
    obtain ⟨m, hm⟩ : ∃ m : Nat, a' + 1 = m := ⟨_, rfl⟩
    have hmI : (a' : Int) + 1 = (m : Int) := by omega
    rw [show a' + [x].length = m from hm]
    have hl9 := hlf.small
    generalize x.kind = xk at *
    generalize x.n = xn at *
    generalize x.p.length = xl at *
    clear hC hlf hd hlt hlt0 hL hn hkk hkn hk0 hT hk hn0
    obtain ⟨w1, e1⟩ : ∃ w1, w1 = w.alloc (.cells #[.int .i64 xk, .int .i64 xn, .slice ao xl c, .int .i64 (kk : Int)] 36) := ⟨_, rfl⟩
    have B1 : Hid (Below w.heap.size w w1) := by show Below _ _ _; rw [e1]; exact al_below _ _
    obtain ⟨a0, a1, a2, a3⟩ : K4 w1 w.heap.size (.int .i64 xk) (.int .i64 xn) (.slice ao xl c) (.int .i64 (kk : Int)) := by rw [e1]; exact k4_new _ _ _ _ _ _
    have KX3 : Hid (K4 w1 w.heap.size (.int .i64 xk) (.int .i64 xn) (.slice ao xl c) (.int .i64 (kk : Int))) := ⟨a0, a1, a2, a3⟩
    have E1 : Hid _ := e1
    clear e1
    by_cases h0 : (0 : Int) < (kk : Int)
    · rw [if_pos h0]
      have AD1 := add_tbq T [126] (by simp; omega)
      have hd7 := dgs_le7 (show kk ≤ 1000000 by omega)
      have AD2 := add_tbq (T ++ [126]) (dgs kk) (by simp; omega)
      rw [show tbs [126] = (⟨#[126]⟩ : ByteArray) from rfl] at AD1
      rw [List.append_assoc] at AD2
      have CD : Hid _ := digits13_any kk (by omega)
      show Calls _ _ _ _ fun e w' => e = .returned (.tuple #[.string (tbs (T ++ ([126] ++ dgs kk))), .int .i64 (m : Int)]) ∧ _
      generalize tbs (T ++ ([126] ++ dgs kk)) = t3 at *
      generalize tbs (T ++ [126]) = t2 at *
      generalize tbs (dgs kk) = td at *
      generalize tbs T = t1 at *
      go_enter Tryz.func29, Tryz.ntmps29
      go_wp2_with (first | rw [← E1.out])
      refine Calls.mono (CP.out w1 B1.out) ?_; rintro e w2 ⟨rfl, b2⟩
      have B2 : Hid (Below w.heap.size w w2) := bgrow' B1.out b2
      clear a0 a1 a2 a3
      obtain ⟨a0, a1, a2, a3⟩ := KX3.out.keep b2
      clear b2 CP B1 E1 KX3
      go_wp2_with fail
      refine Calls.mono (CD.out w2) ?_; rintro e w3 ⟨rfl, b3⟩
      have B3 : Hid (Below w.heap.size w w3) := bgrow' B2.out b3
      clear b3 CD B2 a0 a1 a2 a3
      go_wp2_with fail
      try simp only [Exit.noGoto]
      refine bodyPost_ret (results_tmp2 rfl _ _ _) rfl ?_
      exact ⟨rfl, B3.out⟩
    · rw [if_neg h0, List.append_nil]
      generalize tbs T = t1 at *
      go_enter Tryz.func29, Tryz.ntmps29
      go_wp2_with (first | rw [← E1.out])
      refine Calls.mono (CP.out w1 B1.out) ?_; rintro e w2 ⟨rfl, b2⟩
      have B2 : Hid (Below w.heap.size w w2) := bgrow' B1.out b2
      clear a0 a1 a2 a3
      obtain ⟨a0, a1, a2, a3⟩ := KX3.out.keep b2
      clear b2 CP B1 E1 KX3
      go_wp2_with fail
      try simp only [Exit.noGoto]
      refine bodyPost_ret (results_tmp2 rfl _ _ _) rfl ?_
      exact ⟨rfl, B2.out⟩
  · intro x a hk hr har ih a' r w hL hd
    have hn2 : n ≤ 4398046511104 := by have := hL.small; omega
    have hsh := rgn_shift hr
    obtain ⟨La, hLa⟩ := a.head
    rw [Qt.flat1, List.cons_append] at hd
    have hlt0 : a' < L.length := by
      rcases Nat.lt_or_ge a' (qis L).length with h1 | h1
      · rw [qis_len] at h1; exact h1
      · rw [List.drop_eq_nil_of_le h1] at hd; cases hd
    have hd1 : (qis L).drop (a' + 1) = a.flat ++ r := by
      rw [← List.drop_drop, hd]; rfl
    obtain ⟨b, o, rfl, hb, hC⟩ := hL.lies (by omega)
    obtain ⟨hlt, ao, c, c0, c1, c2, c3, hlf⟩ := node_at hC hL.ok hd
    have hd1' := hd1
    rw [hLa, List.cons_append] at hd1'
    obtain ⟨hlt1, _, _, d0, _⟩ := node_at hC hL.ok hd1'
    have haI : (a' : Int) < (n : Int) := by omega
    obtain ⟨i1, hi1⟩ : ∃ i1 : Nat, a' + 1 = i1 := ⟨_, rfl⟩
    have hi1I : (a' : Int) + 1 = (i1 : Int) := by omega
    rw [hi1] at hd1 hlt1 d0
    have hi1J : (i1 : Int) < (n : Int) := by omega
    have hfl : a.flat.length ≤ n := by
      have := congrArg List.length hd1
      rw [List.length_drop, List.length_append, qis_len] at this
      omega
    have htl := txt_le a har
    have IA : Hid (∀ v : World, Below w.heap.size w v → Calls Tryz.prog 29 #[.slice (some ⟨b, o, none⟩) n cap, .int .i64 (i1 : Int)] v fun e w' => e = .returned (.tuple #[.string (tbs a.txt), .int .i64 ((i1 + a.flat.length : Nat) : Int)]) ∧ Below v.heap.size v w') := fun v hv => ih i1 r v (hL.grow hv) hd1
    have HD0 : Hid (∀ v : World, Below w.heap.size w v → v.cell? ⟨b, o + i1 * 4, none⟩ = some (.int .i64 a.x.kind)) := fun v hv => (hv.cell (p := ⟨b, o + i1 * 4, none⟩) hb).trans d0
    obtain ⟨m, hm⟩ : ∃ m : Nat, i1 + a.flat.length = m := ⟨_, rfl⟩
    rw [Qt.txt1, Qt.flat1, List.length_cons, show a' + (a.flat.length + 1) = m by omega]
    rw [hm] at IA
    have hm9 : m ≤ 8796093022208 := by omega
    obtain ⟨w1, e1⟩ : ∃ w1, w1 = w.alloc (.cells #[.int .i64 x.kind, .int .i64 x.n, .slice ao x.p.length c, .int .i64 x.k] 36) := ⟨_, rfl⟩
    have B1 : Hid (Below w.heap.size w w1) := by show Below _ _ _; rw [e1]; exact al_below _ _
    have KX3 : Hid (K4 w1 w.heap.size (.int .i64 x.kind) (.int .i64 x.n) (.slice ao x.p.length c) (.int .i64 x.k)) := by show K4 _ _ _ _ _ _; rw [e1]; exact k4_new _ _ _ _ _ _
    have E1 : Hid _ := e1
    have hl9 := hlf.small
    obtain ⟨nn, hnn⟩ : ∃ nn : Nat, x.n = (nn : Int) := ⟨x.n.toNat, by omega⟩
    have hnt : x.n.toNat = nn := by omega
    rw [hnt]
    rw [hnn] at c1 KX3 E1
    have hkk : x.kind = 4 ∨ x.kind = 5 := hk
    generalize x.kind = xk at *
    generalize x.p.length = xl at *
    generalize x.k = xK at *
    have hb9 : (brk (isAO a.x.kind) a.txt).length ≤ a.txt.length + 2 := by unfold brk; split <;> simp
    have CB : Hid (∀ v : World, Calls Tryz.prog 54 #[.bool (isAO a.x.kind), .string (tbs a.txt)] v fun e w' => e = .returned (.string (tbs (brk (isAO a.x.kind) a.txt))) ∧ Below v.heap.size v w') := fun v => bracket14_any _ _ (by omega) v
    generalize hBK : brk (isAO a.x.kind) a.txt = BK at *
    generalize a.txt = TA at *
    have hcs := isAO_cases a.x.kind
    generalize isAO a.x.kind = both at *
    generalize a.x.kind = fk at *
    clear hC hlf hd hd1 hd1' hlt hlt1 hlt0 hL hn hLa ih d0 e1 hk hm hBK hi1 hnt
    obtain ⟨a0, a1, a2, a3⟩ := KX3.out
    have d0 := HD0.out w1 B1.out
    rcases hkk with hk4 | hk5
    · have q1 : (xk == 1) = false := by rw [hk4]; decide
      have q4 : (xk == 4) = true := by simpa using hk4
      rw [if_pos hk4]
      clear hk4
      have AD1 := add_tbq [33] BK (by simp; omega)
      rw [show tbs [33] = (⟨#[33]⟩ : ByteArray) from rfl] at AD1
      generalize tbs ([33] ++ BK) = t3 at *
      generalize tbs BK = tb at *
      generalize tbs TA = ta at *
      rcases hcs with ⟨f2, f3, hbo, _⟩ | ⟨f2, f3, hbo, _⟩ | ⟨f2, f3, hbo, _⟩
      all_goals
        rw [hbo] at CB
        go_enter Tryz.func29, Tryz.ntmps29
        go_wp2_with (first | rw [← E1.out])
        refine Calls.mono (IA.out w1 B1.out) ?_; rintro e w2 ⟨rfl, b2⟩
        have B2 : Hid (Below w.heap.size w w2) := bgrow' B1.out b2
        clear a0 a1 a2 a3 d0
        obtain ⟨a0, a1, a2, a3⟩ := KX3.out.keep b2
        have KX4 : Hid (K4 w2 w.heap.size _ _ _ _) := KX3.out.keep b2
        clear b2 IA B1 E1 KX3
        go_wp2_with fail
        refine Calls.mono (CB.out _) ?_; rintro e w3 ⟨rfl, b3⟩
        have B3 : Hid (Below w.heap.size w w3) := bgrow' B2.out b3
        clear b3 CB B2 a0 a1 a2 a3 KX4
        go_wp2_with fail
        try simp only [Exit.noGoto]
        refine bodyPost_ret (results_tmp2 rfl _ _ _) rfl ?_
        exact ⟨rfl, B3.out⟩
    · skip
      have q1 : (xk == 1) = false := by rw [hk5]; decide
      have q4 : (xk == 4) = false := by rw [hk5]; decide
      have q5 : (xk == 5) = true := by simpa using hk5
      rw [if_neg (by omega)]
      clear hk5
      have hd7 := dgs_le7 (show nn ≤ 1000000 by omega)
      have AD1 := add_tbq [62] (dgs nn) (by simp; omega)
      rw [show tbs [62] = (⟨#[62]⟩ : ByteArray) from rfl] at AD1
      have AD2 := add_tbq ([62] ++ dgs nn) BK (by simp; omega)
      have CD : Hid _ := digits13_any nn (by omega)
      show Calls _ _ _ _ fun e w' => e = .returned (.tuple #[.string (tbs (([62] ++ dgs nn) ++ BK)), .int .i64 (m : Int)]) ∧ _
      generalize tbs (([62] ++ dgs nn) ++ BK) = t3 at *
      generalize tbs ([62] ++ dgs nn) = t2 at *
      generalize tbs (dgs nn) = td at *
      generalize tbs BK = tb at *
      generalize tbs TA = ta at *
      rcases hcs with ⟨f2, f3, hbo, _⟩ | ⟨f2, f3, hbo, _⟩ | ⟨f2, f3, hbo, _⟩
      all_goals
        rw [hbo] at CB
        go_enter Tryz.func29, Tryz.ntmps29
        go_wp2_with (first | rw [← E1.out])
        refine Calls.mono (IA.out w1 B1.out) ?_; rintro e w2 ⟨rfl, b2⟩
        have B2 : Hid (Below w.heap.size w w2) := bgrow' B1.out b2
        clear a0 a1 a2 a3 d0
        obtain ⟨a0, a1, a2, a3⟩ := KX3.out.keep b2
        have KX4 : Hid (K4 w2 w.heap.size _ _ _ _) := KX3.out.keep b2
        clear b2 IA B1 E1 KX3
        go_wp2_with fail
        refine Calls.mono (CD.out _) ?_; rintro e w3 ⟨rfl, b3⟩
        have B3 : Hid (Below w.heap.size w w3) := bgrow' B2.out b3
        clear b3 CD B2 a0 a1 a2 a3 KX4
        go_wp2_with fail
        refine Calls.mono (CB.out _) ?_; rintro e w4 ⟨rfl, b4⟩
        have B4 : Hid (Below w.heap.size w w4) := bgrow' B3.out b4
        clear b4 CB B3
        go_wp2_with fail
        try simp only [Exit.noGoto]
        refine bodyPost_ret (results_tmp2 rfl _ _ _) rfl ?_
        exact ⟨rfl, B4.out⟩
  · intro x a e hk hr har her iha ihe a' r w hL hd
    have hn2 : n ≤ 4398046511104 := by have := hL.small; omega
    obtain ⟨La, hLa⟩ := a.head
    obtain ⟨Le, hLe⟩ := e.head
    rw [Qt.flat2, List.cons_append, List.append_assoc] at hd
    have hlt0 : a' < L.length := by
      rcases Nat.lt_or_ge a' (qis L).length with h1 | h1
      · rw [qis_len] at h1; exact h1
      · rw [List.drop_eq_nil_of_le h1] at hd; cases hd
    have hd1 : (qis L).drop (a' + 1) = a.flat ++ (e.flat ++ r) := by
      rw [← List.drop_drop, hd]; rfl
    have hd2 : (qis L).drop (a' + 1 + a.flat.length) = e.flat ++ r := by
      rw [← List.drop_drop, hd1, List.drop_left]
    obtain ⟨b, o, rfl, hb, hC⟩ := hL.lies (by omega)
    obtain ⟨hlt, ao, c, c0, c1, c2, c3, hlf⟩ := node_at hC hL.ok hd
    have hd1' := hd1
    rw [hLa, List.cons_append] at hd1'
    obtain ⟨hlt1, _, _, d0, _⟩ := node_at hC hL.ok hd1'
    have hd2' := hd2
    rw [hLe, List.cons_append] at hd2'
    obtain ⟨hlt2, _, _, e0, _⟩ := node_at hC hL.ok hd2'
    have haI : (a' : Int) < (n : Int) := by omega
    obtain ⟨i1, hi1⟩ : ∃ i1 : Nat, a' + 1 = i1 := ⟨_, rfl⟩
    have hi1I : (a' : Int) + 1 = (i1 : Int) := by omega
    rw [hi1] at hd1 hd2 hlt1 hlt2 d0 e0
    obtain ⟨i2, hi2⟩ : ∃ i2 : Nat, i1 + a.flat.length = i2 := ⟨_, rfl⟩
    rw [hi2] at hd2 hlt2 e0
    have hi1J : (i1 : Int) < (n : Int) := by omega
    have hi2J : (i2 : Int) < (n : Int) := by omega
    have hfl : a.flat.length ≤ n ∧ e.flat.length ≤ n := by
      have h1 := congrArg List.length hd1
      have h2 := congrArg List.length hd2
      rw [List.length_drop, List.length_append, qis_len] at h1 h2
      omega
    have htl := txt_le a har
    have hte := txt_le e her
    have IA : Hid (∀ v : World, Below w.heap.size w v → Calls Tryz.prog 29 #[.slice (some ⟨b, o, none⟩) n cap, .int .i64 (i1 : Int)] v fun y w' => y = .returned (.tuple #[.string (tbs a.txt), .int .i64 ((i1 + a.flat.length : Nat) : Int)]) ∧ Below v.heap.size v w') := fun v hv => iha i1 (e.flat ++ r) v (hL.grow hv) hd1
    have IE : Hid (∀ v : World, Below w.heap.size w v → Calls Tryz.prog 29 #[.slice (some ⟨b, o, none⟩) n cap, .int .i64 (i2 : Int)] v fun y w' => y = .returned (.tuple #[.string (tbs e.txt), .int .i64 ((i2 + e.flat.length : Nat) : Int)]) ∧ Below v.heap.size v w') := fun v hv => ihe i2 r v (hL.grow hv) hd2
    have HE0 : Hid (∀ v : World, Below w.heap.size w v → v.cell? ⟨b, o + i2 * 4, none⟩ = some (.int .i64 e.x.kind)) := fun v hv => (hv.cell (p := ⟨b, o + i2 * 4, none⟩) hb).trans e0
    have HD0 : Hid (∀ v : World, Below w.heap.size w v → v.cell? ⟨b, o + i1 * 4, none⟩ = some (.int .i64 a.x.kind)) := fun v hv => (hv.cell (p := ⟨b, o + i1 * 4, none⟩) hb).trans d0
    rw [hi2] at IA
    obtain ⟨m, hm⟩ : ∃ m : Nat, i2 + e.flat.length = m := ⟨_, rfl⟩
    rw [Qt.txt2, Qt.flat2, List.length_cons, List.length_append, show a' + (a.flat.length + e.flat.length + 1) = m by omega]
    rw [hm] at IE
    obtain ⟨w1, e1⟩ : ∃ w1, w1 = w.alloc (.cells #[.int .i64 x.kind, .int .i64 x.n, .slice ao x.p.length c, .int .i64 x.k] 36) := ⟨_, rfl⟩
    have B1 : Hid (Below w.heap.size w w1) := by show Below _ _ _; rw [e1]; exact al_below _ _
    have KX3 : Hid (K4 w1 w.heap.size (.int .i64 x.kind) (.int .i64 x.n) (.slice ao x.p.length c) (.int .i64 x.k)) := by show K4 _ _ _ _ _ _; rw [e1]; exact k4_new _ _ _ _ _ _
    have E1 : Hid _ := e1
    have hl9 := hlf.small
    have hkk : x.kind = 2 ∨ x.kind = 3 := hk
    have hhn : x.n = x.n := rfl
    generalize x.kind = xk at *
    generalize x.n = xn at *
    generalize x.p.length = xl at *
    generalize x.k = xK at *
    have CB : Hid (∀ (is : Bool) (v : World), Calls Tryz.prog 54 #[.bool is, .string (tbs a.txt)] v fun y w' => y = .returned (.string (tbs (brk is a.txt))) ∧ Below v.heap.size v w') := fun is v => bracket14_any is _ (by omega) v
    have CE : Hid (∀ (is : Bool) (v : World), Calls Tryz.prog 54 #[.bool is, .string (tbs e.txt)] v fun y w' => y = .returned (.string (tbs (brk is e.txt))) ∧ Below v.heap.size v w') := fun is v => bracket14_any is _ (by omega) v
    have hb9 : ∀ is, (brk is a.txt).length ≤ a.txt.length + 2 := fun is => by unfold brk; split <;> simp
    have he9 : ∀ is, (brk is e.txt).length ≤ e.txt.length + 2 := fun is => by unfold brk; split <;> simp
    have hcs := isAO_cases a.x.kind
    have hes := isAO_cases e.x.kind
    generalize a.txt = TA at *
    generalize e.txt = TE at *
    generalize isAO a.x.kind = bothA at *
    generalize isAO e.x.kind = bothE at *
    generalize decide (a.x.kind = 3) = orA at *
    generalize decide (e.x.kind = 3) = orE at *
    generalize a.x.kind = fk at *
    generalize e.x.kind = gk at *
    clear hC hlf hd hd1 hd1' hd2 hd2' hlt hlt1 hlt2 hlt0 hL hn hLa hLe iha ihe d0 e0 e1 hk hm hi1 hi2 hr hhn
    have d0 := HD0.out w1 B1.out
    obtain ⟨a0, a1, a2, a3⟩ := KX3.out
    rcases hkk with hk2 | hk3
    · have q1 : (xk == 1) = false := by rw [hk2]; decide
      have q4 : (xk == 4) = false := by rw [hk2]; decide
      have q5 : (xk == 5) = false := by rw [hk2]; decide
      have q2 : (xk == 2) = true := by simpa using hk2
      rw [if_pos hk2]
      clear hk2
      have hb0 := hb9 orA
      have he0 := he9 bothE
      have CBO : Hid _ := CB.out orA
      have CEO : Hid _ := CE.out bothE
      clear CB CE hb9 he9
      generalize brk orA TA = BA at *
      generalize brk bothE TE = BE at *
      have AD1 := add_tbq BA [32, 38, 32] (by simp; omega)
      rw [show tbs [32, 38, 32] = (⟨#[32, 38, 32]⟩ : ByteArray) from rfl] at AD1
      have AD2 := add_tbq (BA ++ [32, 38, 32]) BE (by simp; omega)
      show Calls _ _ _ _ fun y w' => y = .returned (.tuple #[.string (tbs (BA ++ ([32, 38, 32] ++ BE))), .int .i64 (m : Int)]) ∧ _
      rw [← List.append_assoc]
      generalize tbs ((BA ++ [32, 38, 32]) ++ BE) = t3 at *
      generalize tbs (BA ++ [32, 38, 32]) = t2 at *
      generalize tbs BA = ta at *
      generalize tbs BE = te at *
      generalize tbs TA = sa at *
      generalize tbs TE = se at *
      rcases hcs with ⟨f2, f3, hbA, hoA⟩ | ⟨f2, f3, hbA, hoA⟩ | ⟨f2, f3, hbA, hoA⟩ <;> rcases hes with ⟨g2, g3, hbE, hoE⟩ | ⟨g2, g3, hbE, hoE⟩ | ⟨g2, g3, hbE, hoE⟩
      all_goals
        rw [hoA] at CBO
        rw [hbE] at CEO
        clear hbA hoA hbE hoE
        go_enter Tryz.func29, Tryz.ntmps29
        go_wp2_with (first | rw [← E1.out])
        refine Calls.mono (IA.out w1 B1.out) ?_; rintro y w2 ⟨rfl, b2⟩
        have B2 : Hid (Below w.heap.size w w2) := bgrow' B1.out b2
        clear a0 a1 a2 a3 d0
        have KX4 : Hid (K4 w2 w.heap.size _ _ _ _) := KX3.out.keep b2
        obtain ⟨a0, a1, a2, a3⟩ := KX4.out
        have e0 := HE0.out w2 B2.out
        clear b2 IA B1 E1 KX3
        go_wp2_with fail
        refine Calls.mono (IE.out w2 B2.out) ?_; rintro y w3 ⟨rfl, b3⟩
        have B3 : Hid (Below w.heap.size w w3) := bgrow' B2.out b3
        clear a0 a1 a2 a3 e0
        obtain ⟨a0, a1, a2, a3⟩ := KX4.out.keep b3
        clear b3 IE B2 KX4
        go_wp2_with fail
        refine Calls.mono (CBO.out _) ?_; rintro y w4 ⟨rfl, b4⟩
        have B4 : Hid (Below w.heap.size w w4) := bgrow' B3.out b4
        clear b4 CBO B3 a0 a1 a2 a3
        go_wp2_with fail
        refine Calls.mono (CEO.out _) ?_; rintro y w5 ⟨rfl, b5⟩
        have B5 : Hid (Below w.heap.size w w5) := bgrow' B4.out b5
        clear b5 CEO B4
        go_wp2_with fail
        try simp only [Exit.noGoto]
        refine bodyPost_ret (results_tmp2 rfl _ _ _) rfl ?_
        exact ⟨rfl, B5.out⟩
    · have q1 : (xk == 1) = false := by rw [hk3]; decide
      have q4 : (xk == 4) = false := by rw [hk3]; decide
      have q5 : (xk == 5) = false := by rw [hk3]; decide
      have q2 : (xk == 2) = false := by rw [hk3]; decide
      rw [if_neg (by omega)]
      clear hk3
      have he0 := he9 orE
      have CEO : Hid _ := CE.out orE
      clear CB CE hb9 he9
      generalize brk orE TE = BE at *
      have AD1 := add_tbq TA [32, 124, 32] (by simp; omega)
      rw [show tbs [32, 124, 32] = (⟨#[32, 124, 32]⟩ : ByteArray) from rfl] at AD1
      have AD2 := add_tbq (TA ++ [32, 124, 32]) BE (by simp; omega)
      show Calls _ _ _ _ fun y w' => y = .returned (.tuple #[.string (tbs (TA ++ ([32, 124, 32] ++ BE))), .int .i64 (m : Int)]) ∧ _
      rw [← List.append_assoc]
      generalize tbs ((TA ++ [32, 124, 32]) ++ BE) = t3 at *
      generalize tbs (TA ++ [32, 124, 32]) = t2 at *
      generalize tbs BE = te at *
      generalize tbs TA = sa at *
      generalize tbs TE = se at *
      rcases hcs with ⟨f2, f3, hbA, hoA⟩ | ⟨f2, f3, hbA, hoA⟩ | ⟨f2, f3, hbA, hoA⟩ <;> rcases hes with ⟨g2, g3, hbE, hoE⟩ | ⟨g2, g3, hbE, hoE⟩ | ⟨g2, g3, hbE, hoE⟩
      all_goals
        skip
        rw [hoE] at CEO
        clear hbA hoA hbE hoE
        go_enter Tryz.func29, Tryz.ntmps29
        go_wp2_with (first | rw [← E1.out])
        refine Calls.mono (IA.out w1 B1.out) ?_; rintro y w2 ⟨rfl, b2⟩
        have B2 : Hid (Below w.heap.size w w2) := bgrow' B1.out b2
        clear a0 a1 a2 a3 d0
        have KX4 : Hid (K4 w2 w.heap.size _ _ _ _) := KX3.out.keep b2
        obtain ⟨a0, a1, a2, a3⟩ := KX4.out
        have e0 := HE0.out w2 B2.out
        clear b2 IA B1 E1 KX3
        go_wp2_with fail
        refine Calls.mono (IE.out w2 B2.out) ?_; rintro y w3 ⟨rfl, b3⟩
        have B3 : Hid (Below w.heap.size w w3) := bgrow' B2.out b3
        clear a0 a1 a2 a3 e0
        obtain ⟨a0, a1, a2, a3⟩ := KX4.out.keep b3
        clear b3 IE B2 KX4
        go_wp2_with fail
        refine Calls.mono (CEO.out _) ?_; rintro y w5 ⟨rfl, b5⟩
        have B5 : Hid (Below w.heap.size w w5) := bgrow' B3.out b5
        clear b5 CEO B3 a0 a1 a2 a3
        go_wp2_with fail
        try simp only [Exit.noGoto]
        refine bodyPost_ret (results_tmp2 rfl _ _ _) rfl ?_
        exact ⟨rfl, B5.out⟩

end Cls

end Go.Proofs.YtbnnobeahliffaaGreatDoor

set_option linter.unusedVariables false
namespace Go.Proofs.YtbnnobeahliffaaGreatDoor
open Go.RowKit
namespace Cls

theorem OQ.qr {w : World} {B : Nat} {T : TypeId} {so : Option Addr} {m c : Nat} {L : List Qv} (h : OQ w B T (.slice so m c) L) (hm : L.length = m) (hs : m ≤ 4398046511104) : QR w so L := by
  obtain ⟨so', c', e, hr⟩ := h.tr (by omega)
  injection e with e1 _ _
  rw [e1]
  exact hr

theorem OQ.roomy {w : World} {B : Nat} {T : TypeId} {so : Option Addr} {m c : Nat} {L : List Qv} (h : OQ w B T (.slice so m c) L) (hm : L.length = m) : m ≤ c ∧ c ≤ 9223372036854775807 := by
  obtain ⟨_, ⟨e, e2⟩ | ⟨g', cap, cur, hv, _, _, hc, hx, _⟩⟩ := h.own
  · injection e with e1 e2 e3
    omega
  · injection hv with e1 e2 e3
    unfold maxLen at hx
    omega

/-- What Parse tells. -/
def Prs (s : ByteArray) (w : World) (B : Nat) (e : Ending) : Prop :=
  ∃ vo m vc, e = .returned (.tuple #[.slice vo m vc, .int .i64 (((qpar s).2.1 : Nat) : Int), .int .i64 (((qpar s).2.2 : Nat) : Int)]) ∧ ∃ R : List Qv, R.length = m ∧ OQ w B 36 (.slice vo m vc) R ∧ qis R = (qpar s).1

set_option maxRecDepth 100000 in
set_option maxHeartbeats 4000000 in
theorem parse14_any (hL : ∀ (s : ByteArray) (hs : s.size ≤ 1000000) (w : World), Calls Tryz.prog 21 #[.string s] w fun e w' => (∃ v L, e = .returned (.tuple #[v, .int .i64 (lpl s : Nat), .int .i64 (lcd s : Nat)]) ∧ OT w' w.heap.size 56 v L ∧ L.map Tv.i = (lls s).map Tk.i) ∧ Below w.heap.size w w') (s : ByteArray) (hs : s.size ≤ 1000000) (w : World) :
    Calls Tryz.prog 7 #[.string s] w fun e w' => Prs s w' w.heap.size e ∧ Below w.heap.size w w' := by
  unfold Prs
  have CL : Hid _ := hL s hs w
  by_cases hc : lcd s = 0
  · obtain ⟨h1000, _, hprt⟩ := lex_told hc
    have hcI : (((lcd s : Nat) : Int) != 0) = false := by rw [hc]; rfl
    have HPR : Hid _ := hprt
    have hqp : qpar s = match qry (itq (lls s).length) (lls s) with
      | .error r => ([], plq s r, 140)
      | .ok (X, t :: r) => ([], plq s (t :: r), 140)
      | .ok (X, []) => if 64 < X.flat.length then ([], 0, 142) else if 16 < X.dep then ([], 0, 141) else (X.flat, s.size, 0) := by
      unfold qpar
      rw [if_neg (by omega)]
      cases qry (itq (lls s).length) (lls s) with
      | error r => rfl
      | ok y =>
        obtain ⟨X, r⟩ := y
        cases r <;> rfl
    obtain ⟨Q, hQ⟩ : ∃ Q, qpar s = Q := ⟨_, rfl⟩
    rw [hQ] at hqp ⊢
    have HQP : Hid _ := hqp
    have hfew := lls_few s
    generalize lls s = Y at *
    generalize lpl s = lp at *
    generalize lcd s = lc at *
    clear hL hqp hQ hprt hc
    go_enter Tryz.func7, Tryz.ntmps7
    go_wp2_with fail
    refine Calls.mono CL.out ?_; rintro e w1 ⟨⟨v1, L, rfl, ho, hl⟩, b1⟩
    have hLn : L.length = Y.length := by have := congrArg List.length hl; simpa using this
    obtain ⟨so, sc, rfl, htr⟩ := ho.tr (by omega)
    obtain ⟨n, hn⟩ : ∃ n, Y.length = n := ⟨_, rfl⟩
    rw [hLn, hn]
    have HTY : Hid (Ty w1 so Y) := ⟨L, htr, hl⟩
    have HN : Hid (Y.length = n) := hn
    have hn9 : n ≤ 1001 := by omega
    have B1 : Hid (Below w.heap.size w w1) := b1
    have CQ : Hid (Calls Tryz.prog 22 #[.slice so n sc, .int .i64 0] w1 fun e w' => (∃ vo m vc nx bad, e = .returned (.agg #[.slice vo m vc, .int .i64 ((nx : Nat) : Int), .bool bad]) ∧ Gq w' w1.heap.size w1.heap.size Y 0 (qry (itq n) Y) (.slice vo m vc) m nx bad) ∧ Below w1.heap.size w1 w') := by
      have := qry14_any n sc so Y hn (by omega) w1 ⟨L, htr, hl⟩ n 0 w1 (Below.refl _ _) (Nat.zero_le _) (by omega)
      rw [List.drop_zero] at this
      exact this
    rw [hn] at HQP
    clear b1 ho hl htr hLn hn CL hfew
    go_wp2_with fail
    refine Calls.mono CQ.out ?_; rintro e w2 ⟨⟨vo, m, vc, nx, bad, rfl, hg⟩, b2⟩
    obtain ⟨w3, e3⟩ : ∃ w3, w3 = w2.alloc (.cells #[.slice vo m vc, .int .i64 (nx : Int), .bool bad] 53) := ⟨_, rfl⟩
    have b3 : Below w2.heap.size w2 w3 := by rw [e3]; exact al_below _ _
    have q3 : Hid (Q3 w3 w2.heap.size (.slice vo m vc) (nx : Int) bad) := by show Q3 _ _ _ _ _; rw [e3]; exact q3_new _ _ _ _
    have B3 : Hid (Below w.heap.size w w3) := bgrow' (bgrow' B1.out b2) b3
    have TY3 : Hid (Ty w3 so Y) := (HTY.out.grow b2).grow b3
    have hw1 : w.heap.size ≤ w1.heap.size := B1.out.size
    obtain ⟨R, g1, g2, g3, _⟩ := hg.row
    have OR : Hid (OQ w3 w.heap.size 36 (.slice vo m vc) R) := oq_mono (g2.grow b3) hw1
    have hle := hg.le
    have hnx : nx ≤ n := by have := HN.out; omega
    have HG : Hid (rst (qry (itq n) Y) = Y.drop nx ∧ bad = isB (qry (itq n) Y) ∧ R.length = m ∧ ∀ X r, qry (itq n) Y = .ok (X, r) → qis R = X.flat) := ⟨hg.rest, hg.bad, g1, g3⟩
    have E3 : Hid _ := e3
    obtain ⟨c0, c1, c2⟩ := q3.out.c
    have HE : Hid (bad = true ∨ nx < n → Q = ([], plq s (Y.drop nx), 140)) := fun h => by
      obtain ⟨hr, hb, _, _⟩ := HG.out
      rw [HQP.out]
      cases ho : qry (itq n) Y with
      | error r =>
        rw [ho] at hr
        rw [← hr]
        rfl
      | ok y =>
        obtain ⟨X, r⟩ := y
        rw [ho] at hr hb
        have hr : r = Y.drop nx := hr
        have hlt : nx < n := by
          rcases h with h | h
          · rw [hb] at h; cases h
          · exact h
        cases hdn : Y.drop nx with
        | nil =>
          have := congrArg List.length hdn
          rw [List.length_drop, HN.out] at this
          simp only [List.length_nil] at this
          omega
        | cons t L2 =>
          rw [hr, hdn]
    clear e3 b3 hg b2 g1 g2 g3 CQ B1 q3 HTY
    by_cases hlt : nx < n
    · have hltI : (nx : Int) < (n : Int) := by omega
      obtain ⟨b, o, rfl, hb, hC⟩ := TY3.out.at' (by have := HN.out; omega)
      obtain ⟨ao, c, t0, k1, t2, t3, t4⟩ := hC nx (by rw [HN.out]; exact hlt)
      have HQ : Hid (Q = ([], (Y[nx]'(by rw [HN.out]; exact hlt)).at', 140)) := by
        show _ = _
        rw [HE.out (.inr hlt), List.drop_eq_getElem_cons (by rw [HN.out]; exact hlt)]
        rfl
      generalize (Y[nx]'(by rw [HN.out]; exact hlt)).at' = pl at *
      clear t0 t2 t3 t4 hC
      cases bad with
      | true =>
        go_wp2_with (first | rw [← E3.out])
        try simp only [Exit.noGoto]
        refine bodyPost_ret (results_tmp3 rfl _ _ _) rfl ?_
        exact ⟨⟨none, 0, 0, by rw [HQ.out]; rfl, [], rfl, oq_nil _ _ _, by rw [HQ.out]; rfl⟩, B3.out⟩
      | false =>
        go_wp2_with (first | rw [← E3.out])
        try simp only [Exit.noGoto]
        refine bodyPost_ret (results_tmp3 rfl _ _ _) rfl ?_
        exact ⟨⟨none, 0, 0, by rw [HQ.out]; rfl, [], rfl, oq_nil _ _ _, by rw [HQ.out]; rfl⟩, B3.out⟩
    · have hltI : ¬ (nx : Int) < (n : Int) := by omega
      cases bad with
      | true =>
        have HQ : Hid (Q = ([], s.size, 140)) := by
          show _ = _
          rw [HE.out (.inl rfl), List.drop_eq_nil_of_le (by rw [HN.out]; omega)]
          rfl
        go_wp2_with (first | rw [← E3.out])
        try simp only [Exit.noGoto]
        refine bodyPost_ret (results_tmp3 rfl _ _ _) rfl ?_
        exact ⟨⟨none, 0, 0, by rw [HQ.out]; rfl, [], rfl, oq_nil _ _ _, by rw [HQ.out]; rfl⟩, B3.out⟩
      | false =>
        have HX : Hid (∃ X : Qt, X.rg ∧ qis R = X.flat ∧ R.length = m ∧ Q = if 64 < X.flat.length then ([], 0, 142) else if 16 < X.dep then ([], 0, 141) else (X.flat, s.size, 0)) := by
          obtain ⟨hr, hb, hm, h3⟩ := HG.out
          cases ho : qry (itq n) Y with
          | error r => rw [ho] at hb; cases hb
          | ok y =>
            obtain ⟨X, r⟩ := y
            rw [ho] at hr
            have hr : r = Y.drop nx := hr
            rw [List.drop_eq_nil_of_le (by rw [HN.out]; omega)] at hr
            subst hr
            refine ⟨X, qry_rg (itq_suf _) (fun L X r => itq_rg HPR.out _ L X r) _ X [] (List.suffix_refl _) ho, h3 X [] ho, hm, ?_⟩
            rw [HQP.out, ho]
        obtain ⟨X, hX, hqi, hm, hQ⟩ := HX.out
        have hfl : X.flat.length = m := by rw [← hqi, qis_len, hm]
        rw [hfl] at hQ
        by_cases h64 : 64 < m
        · have h64I : (64 : Int) < (m : Int) := by omega
          have HQ : Hid (Q = ([], 0, 142)) := by show _ = _; rw [hQ, if_pos h64]
          clear hQ hX hqi hm hfl HX
          go_wp2_with (first | rw [← E3.out])
          try simp only [Exit.noGoto]
          refine bodyPost_ret (results_tmp3 rfl _ _ _) rfl ?_
          exact ⟨⟨none, 0, 0, by rw [HQ.out]; rfl, [], rfl, oq_nil _ _ _, by rw [HQ.out]; rfl⟩, B3.out⟩
        · have h64I : ¬ (64 : Int) < (m : Int) := by omega
          rw [if_neg h64] at hQ
          have CD : Hid (Calls Tryz.prog 23 #[.slice vo m vc] w3 fun e w' => e = .returned (.int .i64 (X.dep : Int)) ∧ Below w3.heap.size w3 w') := by
            have := depth14_any m vc vo R hm w3 (OR.out.qr hm (by omega))
            rw [hqi, qdep_flat X hX.1] at this
            exact this
          have HRX : Hid (R.length = m ∧ qis R = X.flat) := ⟨hm, hqi⟩
          by_cases h16 : 16 < X.dep
          · have h16I : (16 : Int) < (X.dep : Int) := by omega
            have HQ : Hid (Q = ([], 0, 141)) := by show _ = _; rw [hQ, if_pos h16]
            clear hQ hX hqi hm hfl HX
            go_wp2_with (first | rw [← E3.out])
            refine Calls.mono CD.out ?_; rintro e w4 ⟨rfl, b4⟩
            have B4 : Hid (Below w.heap.size w w4) := bgrow' B3.out b4
            clear b4 CD
            go_wp2_with fail
            try simp only [Exit.noGoto]
            refine bodyPost_ret (results_tmp3 rfl _ _ _) rfl ?_
            exact ⟨⟨none, 0, 0, by rw [HQ.out]; rfl, [], rfl, oq_nil _ _ _, by rw [HQ.out]; rfl⟩, B4.out⟩
          · have h16I : ¬ (16 : Int) < (X.dep : Int) := by omega
            have HQ : Hid (Q = (X.flat, s.size, 0)) := by show _ = _; rw [hQ, if_neg h16]
            clear hQ hX hqi hm hfl HX
            go_wp2_with (first | rw [← E3.out])
            refine Calls.mono CD.out ?_; rintro e w4 ⟨rfl, b4⟩
            have B4 : Hid (Below w.heap.size w w4) := bgrow' B3.out b4
            have O4 : Hid (OQ w4 w.heap.size 36 (.slice vo m vc) R) := OR.out.grow b4
            have d0 := (b4.cell (p := ⟨w2.heap.size, 0, none⟩) (World.block_lt_of_cell? w3 _ c0)).trans c0
            clear b4 CD c0 c1 c2
            go_wp2_with fail
            try simp only [Exit.noGoto]
            refine bodyPost_ret (results_tmp3 rfl _ _ _) rfl ?_
            exact ⟨⟨vo, m, vc, by rw [HQ.out]; rfl, R, HRX.out.1, O4.out, by rw [HQ.out, HRX.out.2]⟩, B4.out⟩
  · have hcI : (((lcd s : Nat) : Int) != 0) = true := by
      have : ¬ ((lcd s : Nat) : Int) = 0 := by omega
      simpa using this
    have HQ : Hid (qpar s = ([], lpl s, lcd s)) := by show _ = _; unfold qpar; rw [if_pos hc]
    generalize qpar s = Q at *
    generalize lls s = Y at *
    generalize lpl s = lp at *
    generalize lcd s = lc at *
    clear hL hc
    go_enter Tryz.func7, Tryz.ntmps7
    go_wp2_with fail
    refine Calls.mono CL.out ?_; rintro e w1 ⟨⟨v1, L, rfl, _, _⟩, b1⟩
    have B1 : Hid (Below w.heap.size w w1) := b1
    clear b1 CL
    go_wp2_with fail
    try simp only [Exit.noGoto]
    refine bodyPost_ret (results_tmp3 rfl _ _ _) rfl ?_
    exact ⟨⟨none, 0, 0, by rw [HQ.out]; rfl, [], rfl, oq_nil _ _ _, by rw [HQ.out]; rfl⟩, B1.out⟩

end Cls

end Go.Proofs.YtbnnobeahliffaaGreatDoor

set_option linter.unusedVariables false
namespace Go.Proofs.YtbnnobeahliffaaGreatDoor
namespace Cls

theorem cb_congr {f g : Nat → Bool} : ∀ (n : Nat), (∀ x, x < n → f x = g x) → cb f 0 n = cb g 0 n
  | 0, _ => by simp [cb]
  | n + 1, h => by rw [cb_snoc, cb_snoc, cb_congr n (fun x hx => h x (by omega)), h n (by omega)]

theorem rr_congr {f g : Nat → Bool} : ∀ (n : Nat), (∀ x, x < n → f x = g x) → rr f n = rr g n
  | 0, _ => by rw [rr_zero, rr_zero]
  | n + 1, h => by
    rw [rr, rr, rr_congr n (fun x hx => h x (by omega)), h n (by omega)]
    by_cases h0 : n = 0
    · simp [h0]
    · rw [h (n - 1) (by omega)]

theorem find_congr {f g : Nat → Bool} : ∀ {L : List Nat}, (∀ x ∈ L, f x = g x) → L.find? f = L.find? g
  | [], _ => rfl
  | a :: L, h => by
    rw [List.find?_cons, List.find?_cons, h a (List.mem_cons_self ..), find_congr (fun x hx => h x (List.mem_cons_of_mem _ hx))]

theorem elt_congr {f g : Nat → Bool} (h : sm f g = true) : elt f = elt g := by
  rw [sm_iff] at h
  have hc := cb_congr 256 h
  have hs : sg f = sg g := by unfold sg; rw [hc]
  have hb : bt f = bt g := by
    unfold bt
    rw [hs, find_congr (fun x hx => h x (List.mem_range.1 hx))]
  unfold elt
  rw [hc, hs, hb, rr_congr 256 h]

theorem elts_congr : ∀ {L M : List (Nat → Bool)}, sml' L M → elts L = elts M
  | [], [], _ => rfl
  | f :: L, g :: M, h => by
    unfold elts
    rw [elt_congr h.1, elts_congr h.2]

theorem prt_congr {k a a' n : Nat} {P Q : List (Nat → Bool)} (h : sml' P Q) : prt ⟨k, a, n, P⟩ = prt ⟨k, a', n, Q⟩ := by
  unfold prt
  simp only
  rw [elts_congr h, sml_len h]

/-- What holds of trees that are alike. -/
theorem Qt.alk_ind {P : Qt → Qt → Prop} (h0 : ∀ x y, qal x y → P ⟨x, []⟩ ⟨y, []⟩) (h1 : ∀ x y a c, qal x y → a.alk c → P a c → P ⟨x, [a]⟩ ⟨y, [c]⟩) (h2 : ∀ x y a b c d, qal x y → a.alk c → b.alk d → P a c → P b d → P ⟨x, [a, b]⟩ ⟨y, [c, d]⟩) : ∀ t u : Qt, t.alk u → P t u
  | ⟨x, []⟩, ⟨y, []⟩, h => h0 x y (by rw [Qt.alk0] at h; exact h)
  | ⟨x, [a]⟩, ⟨y, [c]⟩, h => by
    rw [Qt.alk1] at h
    exact h1 x y a c h.1 h.2 (alk_ind h0 h1 h2 a c h.2)
  | ⟨x, [a, b]⟩, ⟨y, [c, d]⟩, h => by
    rw [Qt.alk2] at h
    exact h2 x y a b c d h.1 h.2.1 h.2.2 (alk_ind h0 h1 h2 a c h.2.1) (alk_ind h0 h1 h2 b d h.2.2)
  | ⟨_, []⟩, ⟨_, _ :: _⟩, h => by simp [Qt.alk] at h
  | ⟨_, [_]⟩, ⟨_, []⟩, h => by simp [Qt.alk] at h
  | ⟨_, [_]⟩, ⟨_, _ :: _ :: _⟩, h => by simp [Qt.alk] at h
  | ⟨_, _ :: _ :: _⟩, ⟨_, []⟩, h => by simp [Qt.alk] at h
  | ⟨_, _ :: _ :: _⟩, ⟨_, [_]⟩, h => by simp [Qt.alk] at h
  | ⟨_, [_, _]⟩, ⟨_, _ :: _ :: _ :: _⟩, h => by simp [Qt.alk] at h
  | ⟨_, _ :: _ :: _ :: _⟩, ⟨_, _ :: _ :: _⟩, h => by simp [Qt.alk] at h

theorem alk_root {t u : Qt} (h : t.alk u) : qal t.x u.x :=
  Qt.alk_ind (P := fun t u => qal t.x u.x) (fun _ _ h => h) (fun _ _ _ _ h _ _ => h) (fun _ _ _ _ _ _ h _ _ _ _ => h) t u h

theorem alk_dep {t u : Qt} (h : t.alk u) : t.dep = u.dep := by
  refine Qt.alk_ind (P := fun t u => t.dep = u.dep) (fun _ _ _ => ?_) (fun _ _ a c _ _ e => ?_) (fun _ _ a b c d _ _ _ e e' => ?_) t u h
  · rw [Qt.dep0, Qt.dep0]
  · rw [Qt.dep1, Qt.dep1, e]
  · rw [Qt.dep2, Qt.dep2, e, e']

/-- Rows of nodes that are alike. -/
def qls : List Qn → List Qn → Prop
  | [], [] => True
  | x :: L, y :: M => qal x y ∧ qls L M
  | _, _ => False

theorem qls_app : ∀ {A B C D : List Qn}, qls A C → qls B D → qls (A ++ B) (C ++ D)
  | [], B, [], D, _, h => h
  | x :: A, B, y :: C, D, h, h' => ⟨h.1, qls_app h.2 h'⟩

theorem alk_flat {t u : Qt} (h : t.alk u) : qls t.flat u.flat := by
  refine Qt.alk_ind (P := fun t u => qls t.flat u.flat) (fun _ _ e => ?_) (fun _ _ a c e _ h => ?_) (fun _ _ a b c d e _ _ h h' => ?_) t u h
  · rw [Qt.flat0, Qt.flat0]; exact ⟨e, trivial⟩
  · rw [Qt.flat1, Qt.flat1]; exact ⟨e, h⟩
  · rw [Qt.flat2, Qt.flat2]; exact ⟨e, qls_app h h'⟩

theorem qls_len : ∀ {L M : List Qn}, qls L M → L.length = M.length
  | [], [], _ => rfl
  | _ :: L, _ :: M, h => by rw [List.length_cons, List.length_cons, qls_len h.2]

theorem qls_at : ∀ {L M : List Qn}, qls L M → ∀ i, (h : i < L.length) → (h' : i < M.length) → qal L[i] M[i]
  | [], [], _, i, h, _ => by simp at h
  | x :: L, y :: M, h, 0, _, _ => h.1
  | x :: L, y :: M, h, i + 1, h1, h2 => qls_at h.2 i (by simpa using h1) (by simpa using h2)

theorem alk_txt {t u : Qt} (h : t.alk u) : t.txt = u.txt := by
  refine Qt.alk_ind (P := fun t u => t.txt = u.txt) (fun x y e => ?_) (fun x y a c e g h => ?_) (fun x y a b c d e g g' h h' => ?_) t u h
  · rw [Qt.txt0, Qt.txt0, prt_congr e.p, e.k]
  · rw [Qt.txt1, Qt.txt1, e.kind, e.n, h, (alk_root g).kind]
  · rw [Qt.txt2, Qt.txt2, e.kind, h, h', (alk_root g).kind, (alk_root g').kind]

theorem sml_symm : ∀ {L M : List (Nat → Bool)}, sml' L M → sml' M L
  | [], [], _ => trivial
  | f :: L, g :: M, h => ⟨by rw [sm_comm]; exact h.1, sml_symm h.2⟩

theorem qal_sqn {x y : Qn} (h : qal x y) : sqn x y = true := by
  unfold sqn
  have hl := sml_len h.p
  rw [h.kind, h.n, h.k, hl, eqr_yes (fun t ht => sml_at h.p t (by omega))]
  simp

/-- A right row's text is small, and is parsed as a row that is alike. -/
theorem qpar_txt {t : Qt} (h : t.rg) (hl : t.flat.length ≤ 64) (hd : t.dep ≤ 16) (hn : t.txt.length ≤ 1000) : ∃ t' : Qt, qpar (tbs t.txt) = (t'.flat, t.txt.length, 0) ∧ t'.alk t := by
  have hr := tks_txt t h 0
  rw [List.replicate_zero, List.nil_append] at hr
  obtain ⟨M, hM, hm⟩ := lxl_rowz (s := tbs t.txt) (t.tks 0) t.txt ((tbs t.txt).size + 1) 0 [] hr (hat_self (rowt_sml hr)) (by rw [tbs_size]; omega) (by rw [tbs_size]; omega)
  have h1 : lex1 (tbs t.txt) = .ok M := by
    unfold lex1
    rw [if_neg (by rw [tbs_size]; omega), hM]
    rfl
  obtain ⟨_, e2, e3⟩ := lex_ok h1
  obtain ⟨t', e, ha⟩ := qry_txt h (rowm_tsl hm)
  refine ⟨t', ?_, ha⟩
  unfold qpar
  rw [if_neg (by omega), e3, e]
  simp only
  rw [if_neg (by rw [qls_len (alk_flat ha)]; omega), if_neg (by rw [alk_dep ha]; omega), tbs_size]

end Cls

end Go.Proofs.YtbnnobeahliffaaGreatDoor

set_option linter.unusedVariables false
namespace Go.Proofs.YtbnnobeahliffaaGreatDoor
namespace Cls

/-- Reading by sub', with B behind, does as reading by sub. -/
def Loc (N : Prop) (B : List Tk) (sub sub' : List Tk → Pr) : Prop := ∀ L Y r, sub L = .ok (Y, r) → (r = [] → N) → sub' (L ++ B) = .ok (Y, r ++ B)

theorem chn_cont {op : Nat} {sub sub' : List Tk → Pr} {N : Prop} {B : List Tk} (hl : Loc N B sub sub') (hs : ∀ L, rst (sub L) <:+ L) (hN : N) : ∀ (g : Nat) (X : Qt) (L : List Tk) (Y : Qt) (g' : Nat), chn op sub g X L = .ok (Y, []) → L.length ≤ g → (L ++ B).length ≤ g' → ∃ g2, chn op sub' g' X (L ++ B) = chn op sub' g2 Y B ∧ B.length ≤ g2
  | 0, X, L, Y, g', h, hg, hf => by
    simp only [chn, Except.ok.injEq, Prod.mk.injEq] at h
    obtain ⟨rfl, rfl⟩ := h
    exact ⟨g', rfl, by simpa using hf⟩
  | g + 1, X, [], Y, g', h, hg, hf => by
    simp only [chn, Except.ok.injEq, Prod.mk.injEq] at h
    obtain ⟨rfl, _⟩ := h
    exact ⟨g', rfl, by simpa using hf⟩
  | g + 1, X, t :: L, Y, g', h, hg, hf => by
    rw [chn] at h
    rw [List.length_cons] at hg
    split at h
    · rename_i ht
      have h1 := hs L
      cases e : sub L with
      | error r => rw [e] at h; cases h
      | ok y =>
        obtain ⟨Z, r⟩ := y
        rw [e] at h h1
        have h2 : r.length ≤ L.length := h1.length_le
        rw [List.cons_append, List.length_cons, List.length_append] at hf
        obtain ⟨k, rfl⟩ : ∃ k, g' = k + 1 := ⟨g' - 1, by omega⟩
        obtain ⟨g2, e2, hg2⟩ := chn_cont hl hs hN g _ r Y k h (by omega) (by rw [List.length_append]; omega)
        exact ⟨g2, by rw [List.cons_append, chn_more ht (hl L Z r e (fun _ => hN)), e2], hg2⟩
    · simp only [Except.ok.injEq, Prod.mk.injEq] at h
      exact absurd h.2 (by simp)

theorem chn_app {op : Nat} {sub sub' : List Tk → Pr} {N : Prop} {B : List Tk} (hl : Loc N B sub sub') (hs : ∀ L, rst (sub L) <:+ L) : ∀ (g : Nat) (X : Qt) (L : List Tk) (Y : Qt) (r : List Tk) (g' : Nat), chn op sub g X L = .ok (Y, r) → L.length ≤ g → g ≤ g' → (r = [] → N ∧ nk op B) → chn op sub' g' X (L ++ B) = .ok (Y, r ++ B)
  | 0, X, L, Y, r, g', h, hg, hf, hN => by
    simp only [chn, Except.ok.injEq, Prod.mk.injEq] at h
    obtain ⟨rfl, rfl⟩ := h
    have : L = [] := List.length_eq_zero_iff.1 (by omega)
    subst this
    exact chn_end (hN rfl).2
  | g + 1, X, [], Y, r, g', h, hg, hf, hN => by
    simp only [chn, Except.ok.injEq, Prod.mk.injEq] at h
    obtain ⟨rfl, rfl⟩ := h
    exact chn_end (hN rfl).2
  | g + 1, X, t :: L, Y, r, g', h, hg, hf, hN => by
    rw [chn] at h
    rw [List.length_cons] at hg
    obtain ⟨k, rfl⟩ : ∃ k, g' = k + 1 := ⟨g' - 1, by omega⟩
    split at h
    · rename_i ht
      have h1 := hs L
      cases e : sub L with
      | error r => rw [e] at h; cases h
      | ok y =>
        obtain ⟨Z, r'⟩ := y
        rw [e] at h h1
        have h2 : r'.length ≤ L.length := h1.length_le
        have h3 : r' = [] → N := fun e0 => by
          subst e0
          have := (chn_suf (op := op) hs g ⟨⟨(op : Int) - 1, 0, [], 0⟩, [X, Z]⟩ []).length_le
          simp only at h
          rw [h] at this
          exact (hN (List.length_eq_zero_iff.1 (by simpa [rst] using this))).1
        rw [List.cons_append, chn_more ht (hl L Z r' e h3)]
        exact chn_app hl hs g _ r' Y r k h (by omega) (by omega) hN
    · rename_i ht
      simp only [Except.ok.injEq, Prod.mk.injEq] at h
      obtain ⟨rfl, rfl⟩ := h
      rw [List.cons_append, chn, if_neg ht]

theorem paq_app {itm itm' : List Tk → Pr} {N : Prop} {B : List Tk} (hl : Loc N B itm itm') (hs : ∀ L, rst (itm L) <:+ L) : Loc (N ∧ nk 3 B) B (paq itm) (paq itm') := by
  intro L Y r h hN
  unfold paq at h ⊢
  cases e : itm L with
  | error r => rw [e] at h; cases h
  | ok y =>
    obtain ⟨X, r'⟩ := y
    rw [e] at h
    have h3 : r' = [] → N := fun e0 => by
      subst e0
      have := (chn_suf (op := 3) hs ([] : List Tk).length X []).length_le
      simp only at h
      rw [h] at this
      exact (hN (List.length_eq_zero_iff.1 (by simpa [rst] using this))).1
    rw [hl L X r' e h3]
    exact chn_app hl hs _ X r' Y r _ h (Nat.le_refl _) (by rw [List.length_append]; omega) hN

theorem qry_app {itm itm' : List Tk → Pr} {N : Prop} {B : List Tk} (hl : Loc N B itm itm') (hs : ∀ L, rst (itm L) <:+ L) : Loc ((N ∧ nk 3 B) ∧ nk 4 B) B (qry itm) (qry itm') := by
  intro L Y r h hN
  unfold qry at h ⊢
  cases e : paq itm L with
  | error r => rw [e] at h; cases h
  | ok y =>
    obtain ⟨X, r'⟩ := y
    rw [e] at h
    have h3 : r' = [] → N ∧ nk 3 B := fun e0 => by
      subst e0
      have := (chn_suf (op := 4) (paq_suf hs) ([] : List Tk).length X []).length_le
      simp only at h
      rw [h] at this
      exact (hN (List.length_eq_zero_iff.1 (by simpa [rst] using this))).1
    rw [paq_app hl hs L X r' e h3]
    exact chn_app (paq_app hl hs) (paq_suf hs) _ X r' Y r _ h (Nat.le_refl _) (by rw [List.length_append]; omega) hN

theorem itq_app {B : List Tk} : ∀ (f f' : Nat), f ≤ f' → Loc (nk 7 B) B (itq f) (itq f')
  | 0, _, _ => fun L Y r h _ => by cases h
  | f + 1, f', hf => fun L Y r h hN => by
    obtain ⟨k, rfl⟩ : ∃ k, f' = k + 1 := ⟨f' - 1, by omega⟩
    have ih := itq_app (B := B) f k (by omega)
    cases L with
    | nil => cases h
    | cons t L =>
      rw [itq_step] at h
      rw [List.cons_append, itq_step]
      split at h
      · rename_i h5
        cases e : itq f L with
        | error r => rw [e] at h; cases h
        | ok y =>
          obtain ⟨X, r'⟩ := y
          rw [e] at h
          simp only [Except.ok.injEq, Prod.mk.injEq] at h
          obtain ⟨rfl, rfl⟩ := h
          rw [if_pos h5, ih L X r' e hN]
      rename_i h5
      rw [if_neg h5]
      split at h
      · rename_i h6
        cases e : itq f L with
        | error r => rw [e] at h; cases h
        | ok y =>
          obtain ⟨X, r'⟩ := y
          rw [e] at h
          simp only [Except.ok.injEq, Prod.mk.injEq] at h
          obtain ⟨rfl, rfl⟩ := h
          rw [if_pos h6, ih L X r' e hN]
      rename_i h6
      rw [if_neg h6]
      split at h
      · rename_i h8
        rw [if_pos h8]
        cases L with
        | nil =>
          simp only [Except.ok.injEq, Prod.mk.injEq] at h
          obtain ⟨rfl, rfl⟩ := h
          have hB := hN rfl
          rw [List.nil_append]
          cases B with
          | nil => rfl
          | cons w B => simp only; rw [if_neg hB]
        | cons u L' =>
          simp only at h
          rw [List.cons_append]
          simp only
          split at h
          · rename_i h7
            rw [if_pos h7]
            split at h
            · cases h
            · rename_i hn
              simp only [Except.ok.injEq, Prod.mk.injEq] at h
              obtain ⟨rfl, rfl⟩ := h
              rw [if_neg hn]
          · rename_i h7
            simp only [Except.ok.injEq, Prod.mk.injEq] at h
            obtain ⟨rfl, rfl⟩ := h
            rw [if_neg h7]
            rfl
      rename_i h8
      rw [if_neg h8]
      split at h
      · rename_i h1
        rw [if_pos h1]
        cases e : qry (itq f) L with
        | error r => rw [e] at h; cases h
        | ok y =>
          obtain ⟨X, r'⟩ := y
          rw [e] at h
          cases r' with
          | nil => cases h
          | cons u r' =>
            simp only at h
            split at h
            · rename_i h2
              simp only [Except.ok.injEq, Prod.mk.injEq] at h
              obtain ⟨rfl, rfl⟩ := h
              rw [qry_app ih (itq_suf f) L X (u :: r') e (fun e0 => by cases e0), List.cons_append]
              simp only
              rw [if_pos h2]
            · cases h
      · cases h

/-- Tokens of which the places alone are others. -/
structure Plo (φ : Tk → Tk) : Prop where
  kind : ∀ t, (φ t).kind = t.kind
  n : ∀ t, (φ t).n = t.n
  p : ∀ t, (φ t).p = t.p

def mpr (φ : Tk → Tk) : Pr → Pr
  | .ok (X, r) => .ok (X, r.map φ)
  | .error r => .error (r.map φ)

theorem chn_map {φ : Tk → Tk} (hφ : Plo φ) {op : Nat} {sub : List Tk → Pr} (hs : ∀ L, sub (L.map φ) = mpr φ (sub L)) : ∀ (g : Nat) (X : Qt) (L : List Tk), chn op sub g X (L.map φ) = mpr φ (chn op sub g X L)
  | 0, X, L => rfl
  | g + 1, X, [] => rfl
  | g + 1, X, t :: L => by
    rw [List.map_cons, chn, chn, hφ.kind]
    split
    · rw [hs L]
      cases e : sub L with
      | error r => rfl
      | ok y =>
        obtain ⟨Y, r⟩ := y
        simp only [mpr]
        exact chn_map hφ hs g _ r
    · rfl

theorem paq_map {φ : Tk → Tk} (hφ : Plo φ) {itm : List Tk → Pr} (hs : ∀ L, itm (L.map φ) = mpr φ (itm L)) (L : List Tk) : paq itm (L.map φ) = mpr φ (paq itm L) := by
  unfold paq
  rw [hs L]
  cases e : itm L with
  | error r => rfl
  | ok y =>
    obtain ⟨Y, r⟩ := y
    simp only [mpr]
    rw [List.length_map]
    exact chn_map hφ hs _ _ r

theorem qry_map {φ : Tk → Tk} (hφ : Plo φ) {itm : List Tk → Pr} (hs : ∀ L, itm (L.map φ) = mpr φ (itm L)) (L : List Tk) : qry itm (L.map φ) = mpr φ (qry itm L) := by
  unfold qry
  rw [paq_map hφ hs L]
  cases e : paq itm L with
  | error r => rfl
  | ok y =>
    obtain ⟨Y, r⟩ := y
    simp only [mpr]
    rw [List.length_map]
    exact chn_map hφ (paq_map hφ hs) _ _ r

theorem itq_map {φ : Tk → Tk} (hφ : Plo φ) : ∀ (f : Nat) (L : List Tk), itq f (L.map φ) = mpr φ (itq f L)
  | 0, L => rfl
  | f + 1, [] => rfl
  | f + 1, t :: L => by
    have ih := itq_map hφ f
    rw [List.map_cons, itq_step, itq_step, hφ.kind, hφ.n, hφ.p, ih L, qry_map hφ ih L]
    split
    · cases e : itq f L with
      | error r => rfl
      | ok y => rfl
    split
    · cases e : itq f L with
      | error r => rfl
      | ok y => rfl
    split
    · cases L with
      | nil => rfl
      | cons u L' =>
        simp only [List.map_cons]
        rw [hφ.kind, hφ.n]
        split
        · split <;> rfl
        · rfl
    split
    · cases e : qry (itq f) L with
      | error r => rfl
      | ok y =>
        obtain ⟨Y, r⟩ := y
        cases r with
        | nil => rfl
        | cons u r =>
          simp only [mpr, List.map_cons]
          rw [hφ.kind]
          split <;> rfl
    · rfl

/-- A chain whose outcome is of another kind than its sign is no chain. -/
theorem chn_none {op : Nat} {sub : List Tk → Pr} : ∀ {g : Nat} {X : Qt} {L : List Tk} {Y : Qt} {r : List Tk}, chn op sub g X L = .ok (Y, r) → Y.x.kind = (op : Int) - 1 ∨ (X = Y ∧ r = L)
  | 0, X, L, Y, r, h => by
    simp only [chn, Except.ok.injEq, Prod.mk.injEq] at h
    exact .inr ⟨h.1, h.2.symm⟩
  | g + 1, X, [], Y, r, h => by
    simp only [chn, Except.ok.injEq, Prod.mk.injEq] at h
    exact .inr ⟨h.1, h.2.symm⟩
  | g + 1, X, t :: L, Y, r, h => by
    rw [chn] at h
    split at h
    · cases e : sub L with
      | error r => rw [e] at h; cases h
      | ok y =>
        obtain ⟨Z, r'⟩ := y
        rw [e] at h
        rcases chn_none (g := g) h with h | ⟨h, _⟩
        · exact .inl h
        · exact .inl (by rw [← h])
    · simp only [Except.ok.injEq, Prod.mk.injEq] at h
      exact .inr ⟨h.1, h.2.symm⟩

theorem qry_paq {itm : List Tk → Pr} {L r : List Tk} {X : Qt} (h : qry itm L = .ok (X, r)) (hk : X.x.kind ≠ 3) : paq itm L = .ok (X, r) := by
  unfold qry at h
  cases e : paq itm L with
  | error r => rw [e] at h; cases h
  | ok y =>
    obtain ⟨Y, r'⟩ := y
    rw [e] at h
    rcases chn_none h with h | ⟨rfl, rfl⟩
    · exact absurd h (by simpa using hk)
    · rfl

theorem paq_itq {itm : List Tk → Pr} {L r : List Tk} {X : Qt} (h : paq itm L = .ok (X, r)) (hk : X.x.kind ≠ 2) : itm L = .ok (X, r) := by
  unfold paq at h
  cases e : itm L with
  | error r => rw [e] at h; cases h
  | ok y =>
    obtain ⟨Y, r'⟩ := y
    rw [e] at h
    rcases chn_none h with h | ⟨rfl, rfl⟩
    · exact absurd h (by simpa using hk)
    · rfl

theorem paq_cont {f f' : Nat} {A B : List Tk} {X : Qt} (h : paq (itq f) A = .ok (X, [])) (hf : f ≤ f') (h7 : nk 7 B) : ∃ g, paq (itq f') (A ++ B) = chn 3 (itq f') g X B ∧ B.length ≤ g := by
  unfold paq at h
  cases e : itq f A with
  | error r => rw [e] at h; cases h
  | ok y =>
    obtain ⟨Y, r'⟩ := y
    rw [e] at h
    obtain ⟨g, e2, hg⟩ := chn_cont (itq_app f f' hf) (itq_suf f) h7 _ _ _ _ (r' ++ B).length h (Nat.le_refl _) (Nat.le_refl _)
    refine ⟨g, ?_, hg⟩
    unfold paq
    rw [itq_app f f' hf A Y r' e (fun _ => h7)]
    exact e2

theorem qry_cont {f f' : Nat} {A B : List Tk} {X : Qt} (h : qry (itq f) A = .ok (X, [])) (hf : f ≤ f') (h7 : nk 7 B) (h3 : nk 3 B) : ∃ g, qry (itq f') (A ++ B) = chn 4 (paq (itq f')) g X B ∧ B.length ≤ g := by
  unfold qry at h
  cases e : paq (itq f) A with
  | error r => rw [e] at h; cases h
  | ok y =>
    obtain ⟨Y, r'⟩ := y
    rw [e] at h
    have hl := paq_app (itq_app (B := B) f f' hf) (itq_suf f)
    obtain ⟨g, e2, hg⟩ := chn_cont hl (paq_suf (itq_suf f)) ⟨h7, h3⟩ _ _ _ _ (r' ++ B).length h (Nat.le_refl _) (Nat.le_refl _)
    refine ⟨g, ?_, hg⟩
    unfold qry
    rw [hl A Y r' e (fun _ => ⟨h7, h3⟩)]
    exact e2

/-- More fuel changes nothing. -/
theorem paq_fuel {f f' : Nat} {A r : List Tk} {X : Qt} (h : paq (itq f) A = .ok (X, r)) (hf : f ≤ f') : paq (itq f') A = .ok (X, r) := by
  have := paq_app (itq_app (B := []) f f' hf) (itq_suf f) A X r h (fun _ => ⟨trivial, trivial⟩)
  simpa using this

theorem itq_fuel {f f' : Nat} {A r : List Tk} {X : Qt} (h : itq f A = .ok (X, r)) (hf : f ≤ f') : itq f' A = .ok (X, r) := by
  have := itq_app (B := []) f f' hf A X r h (fun _ => trivial)
  simpa using this

/-- An Or between two queries. -/
theorem qry_or {φ : Tk → Tk} (hφ : Plo φ) {A B : List Tk} {X Y : Qt} {o : Tk} (ho : o.kind = 4) (hA : qry (itq A.length) A = .ok (X, [])) (hB : qry (itq B.length) B = .ok (Y, [])) (hY : Y.x.kind ≠ 3) : qry (itq (A ++ o :: B.map φ).length) (A ++ o :: B.map φ) = .ok (⟨⟨3, 0, [], 0⟩, [X, Y]⟩, []) := by
  have hl : (A ++ o :: B.map φ).length = A.length + (B.length + 1) := by simp
  obtain ⟨g, e, hg⟩ := qry_cont (f' := (A ++ o :: B.map φ).length) (B := o :: B.map φ) hA (by omega) (by show o.kind ≠ 7; omega) (by show o.kind ≠ 3; omega)
  have h1 := paq_fuel (f' := (A ++ o :: B.map φ).length) (qry_paq hB hY) (by omega)
  have h2 := paq_map hφ (itq_map hφ (A ++ o :: B.map φ).length) B
  rw [h1] at h2
  rw [List.length_cons] at hg
  obtain ⟨k, rfl⟩ : ∃ k, g = k + 1 := ⟨g - 1, by omega⟩
  rw [e, chn_more ho h2]
  exact chn_end (show nk 4 [] from trivial)

/-- An And between. -/
theorem qry_and {φ : Tk → Tk} (hφ : Plo φ) {A B : List Tk} {X Y : Qt} {o : Tk} (ho : o.kind = 3) (hA : qry (itq A.length) A = .ok (X, [])) (hB : qry (itq B.length) B = .ok (Y, [])) (hX : X.x.kind ≠ 3) (hY : Y.x.kind ≠ 3) (hY2 : Y.x.kind ≠ 2) : qry (itq (A ++ o :: B.map φ).length) (A ++ o :: B.map φ) = .ok (⟨⟨2, 0, [], 0⟩, [X, Y]⟩, []) := by
  have hl : (A ++ o :: B.map φ).length = A.length + (B.length + 1) := by simp
  obtain ⟨g, e, hg⟩ := paq_cont (f' := (A ++ o :: B.map φ).length) (B := o :: B.map φ) (qry_paq hA hX) (by omega) (by show o.kind ≠ 7; omega)
  have h1 := itq_fuel (f' := (A ++ o :: B.map φ).length) (paq_itq (qry_paq hB hY) hY2) (by omega)
  have h2 := itq_map hφ (A ++ o :: B.map φ).length B
  rw [h1] at h2
  rw [List.length_cons] at hg
  obtain ⟨k, rfl⟩ : ∃ k, g = k + 1 := ⟨g - 1, by omega⟩
  rw [chn_more ho h2, chn_end (show nk 3 (List.map φ []) from trivial)] at e
  unfold qry
  rw [e]
  exact chn_end (show nk 4 [] from trivial)

/-- Brackets around a query are an item. -/
theorem itq_brk {φ : Tk → Tk} (hφ : Plo φ) {A R : List Tk} {X : Qt} {o c : Tk} (ho : o.kind = 1) (hc : c.kind = 2) (hA : qry (itq A.length) A = .ok (X, [])) (f : Nat) (hf : A.length < f) : itq f (o :: (A.map φ ++ c :: R)) = .ok (X, R) := by
  obtain ⟨k, rfl⟩ : ∃ k, f = k + 1 := ⟨f - 1, by omega⟩
  have h2 := qry_map hφ (itq_map hφ A.length) A
  rw [hA] at h2
  have h1 := qry_app (itq_app (B := c :: R) A.length k (by omega)) (itq_suf _) (A.map φ) X [] h2 (fun _ => ⟨⟨by show c.kind ≠ 7; omega, by show c.kind ≠ 3; omega⟩, by show c.kind ≠ 4; omega⟩)
  rw [List.nil_append] at h1
  rw [itq_step, if_neg (by omega), if_neg (by omega), if_neg (by omega), if_pos ho, h1]
  simp only
  rw [if_pos hc]

/-- An item that nothing follows is a query. -/
theorem qry_item {f : Nat} {L : List Tk} {X : Qt} {R : List Tk} (h : itq f L = .ok (X, R)) (h3 : nk 3 R) (h4 : nk 4 R) : qry (itq f) L = .ok (X, R) := by
  unfold qry paq
  rw [h]
  simp only
  rw [chn_end h3]
  simp only
  rw [chn_end h4]

end Cls

end Go.Proofs.YtbnnobeahliffaaGreatDoor

set_option linter.unusedVariables false
namespace Go.Proofs.YtbnnobeahliffaaGreatDoor
namespace Cls

theorem lxl_places {s : ByteArray} : ∀ (fuel q : Nat) (out L : List Tk), lxl s fuel q out = .ok L → (∀ t ∈ out, t.at' ≤ s.size) → ∀ t ∈ L, t.at' ≤ s.size
  | 0, _, _, _, h, _ => by cases h
  | fuel + 1, q, out, L, h, ho => by
    rw [lxl] at h
    split at h
    · simp only [Except.ok.injEq] at h
      subst h
      exact ho
    split at h
    · exact lxl_places fuel _ _ L h ho
    · split at h
      · cases h
      · rename_i t n e1
        have h1 := tok1_next (by omega) e1
        exact lxl_places fuel n _ L h (fun u hu => by
          rcases List.mem_append.1 hu with hu | hu
          · exact ho u hu
          · rw [List.mem_singleton] at hu; rw [hu, h1.2.2.1]; omega)

theorem plq_le {s : ByteArray} {r : List Tk} (h : ∀ t ∈ r, t.at' ≤ s.size) : plq s r ≤ s.size := by
  cases r with
  | nil => exact Nat.le_refl _
  | cons t r => exact h t (List.mem_cons_self ..)

/-- The place is none behind the end. -/
theorem qpar_place (s : ByteArray) : (qpar s).2.1 ≤ s.size := by
  unfold qpar
  by_cases hc : lcd s = 0
  · rw [if_neg (by omega)]
    obtain ⟨h1, h2, _⟩ := lex_told hc
    have hat : ∀ t ∈ lls s, t.at' ≤ s.size := by
      unfold lex1 at h2
      rw [if_neg (by omega)] at h2
      exact lxl_places _ _ _ _ h2 (fun t ht => by simp at ht)
    have hs := qry_suf (itq_suf (lls s).length) (lls s)
    cases e : qry (itq (lls s).length) (lls s) with
    | error r =>
      rw [e] at hs
      exact plq_le (fun t ht => hat t (hs.subset ht))
    | ok y =>
      obtain ⟨X, r⟩ := y
      rw [e] at hs
      cases r with
      | cons u r => exact plq_le (fun t ht => hat t (hs.subset ht))
      | nil =>
        simp only
        split
        · exact Nat.zero_le _
        split
        · exact Nat.zero_le _
        · exact Nat.le_refl _
  · rw [if_pos hc]
    exact lpl_le s

theorem rg_at (b x : Nat) : rg b (b + 1) x = (x == b) := by
  unfold rg
  rw [Bool.eq_iff_iff]
  simp
  omega

/-- An element of one byte. -/
theorem elt_byte {b : Nat} (h : b < 256) : elt (rg b (b + 1)) = some (wrt b aptE) := by
  obtain ⟨h1, h2⟩ := sg_one (f := rg b (b + 1)) h (fun x _ => rg_at b x)
  have hc : cb (rg b (b + 1)) 0 256 = 1 := by
    unfold sg at h1
    simpa using h1
  unfold elt
  rw [hc, if_neg (by decide), if_neg (by decide), if_pos h1, h2]

/-- A pattern of bytes. -/
def pby (L : List Nat) : List (Nat → Bool) := L.map fun b => rg b (b + 1)

/-- The law's own query. -/
def alq : Qt := ⟨⟨3, 0, [], 0⟩, [⟨⟨2, 0, [], 0⟩, [⟨⟨1, 0, pby [97], 0⟩, []⟩, ⟨⟨1, 0, pby [98], 0⟩, []⟩]⟩, ⟨⟨4, 0, [], 0⟩, [⟨⟨1, 0, pby [99, 100], 1⟩, []⟩]⟩]⟩

theorem prt_bytes1 {a : Nat} (h : a < 256) : prt ⟨8, 0, 0, pby [a]⟩ = some (34 :: (wrt a aptE ++ [34])) := by
  unfold prt
  rw [if_neg (by simp), if_pos rfl, if_neg (by simp [pby])]
  simp only [pby, List.map_cons, List.map_nil, elts, elt_byte h, List.append_nil]

theorem prt_bytes2 {a b : Nat} (h : a < 256) (h' : b < 256) : prt ⟨8, 0, 0, pby [a, b]⟩ = some (34 :: ((wrt a aptE ++ wrt b aptE) ++ [34])) := by
  unfold prt
  rw [if_neg (by simp), if_pos rfl, if_neg (by simp [pby])]
  simp only [pby, List.map_cons, List.map_nil, elts, elt_byte h, elt_byte h', List.append_nil]

theorem rgn_bytes {L : List Nat} {k : Nat} (h1 : 1 ≤ L.length) (h2 : L.length ≤ 64) (hk : k ≤ 64) (hb : ∀ b ∈ L, b < 256) : rgn ⟨1, 0, pby L, (k : Int)⟩ = true := by
  have he : emp (at' (pby L)) (pby L).length = false := emp_ne (fun f hf => by
    unfold pby at hf
    obtain ⟨b, hb', rfl⟩ := List.mem_map.1 hf
    exact cb_rg (hb b hb') (by omega))
  have hl : (pby L).length = L.length := by simp [pby]
  have hr : rgt (at' (pby L)) (pby L).length (k : Int) = true := by
    unfold rgt
    rw [he, hl]
    simp only [Bool.and_eq_true, decide_eq_true_eq]
    exact ⟨by omega, rfl⟩
  unfold rgn
  simp [hr]

theorem alq_rg : alq.rg := by
  unfold alq
  refine ⟨?_, fun x hx => ?_⟩
  · rw [Qt.ok2, Qt.ok2, Qt.ok0, Qt.ok0, Qt.ok1, Qt.ok0]
    exact ⟨.inr rfl, ⟨.inl rfl, rfl, rfl⟩, .inl rfl, rfl⟩
  · rw [Qt.flat2, Qt.flat2, Qt.flat0, Qt.flat0, Qt.flat1, Qt.flat0] at hx
    simp only [List.cons_append, List.nil_append, List.mem_cons, List.not_mem_nil, or_false] at hx
    rcases hx with rfl | rfl | rfl | rfl | rfl | rfl
    · decide
    · decide
    · exact rgn_bytes (L := [97]) (k := 0) (by decide) (by decide) (by decide) (by decide)
    · exact rgn_bytes (L := [98]) (k := 0) (by decide) (by decide) (by decide) (by decide)
    · decide
    · exact rgn_bytes (L := [99, 100]) (k := 1) (by decide) (by decide) (by decide) (by decide)

theorem alq_txt : alq.txt = [34, 97, 34, 32, 38, 32, 34, 98, 34, 32, 124, 32, 33, 34, 99, 100, 34, 126, 49] := by
  unfold alq
  rw [Qt.txt2, Qt.txt2, Qt.txt0, Qt.txt0, Qt.txt1, Qt.txt0, prt_bytes1 (by decide), prt_bytes1 (by decide), prt_bytes2 (by decide) (by decide)]
  have hd : dgs 1 = [49] := dgs_one (by decide)
  simp [brk, isAO, wrt, sgn, aptE, hd]

/-- It is parsed. -/
theorem alq_par : ∃ t' : Qt, qpar (tbs [34, 97, 34, 32, 38, 32, 34, 98, 34, 32, 124, 32, 33, 34, 99, 100, 34, 126, 49]) = (t'.flat, 19, 0) ∧ t'.alk alq := by
  have h := qpar_txt alq_rg (by unfold alq; rw [Qt.flat2, Qt.flat2, Qt.flat0, Qt.flat0, Qt.flat1, Qt.flat0]; decide) (by unfold alq; rw [Qt.dep2, Qt.dep2, Qt.dep0, Qt.dep0, Qt.dep1, Qt.dep0]; decide) (by rw [alq_txt]; decide)
  rw [alq_txt] at h
  exact h

/-- Two patterns with nothing between. -/
theorem two_par : qpar (tbs [34, 97, 34, 32, 34, 98, 34]) = ([], 4, 140) := by
  have h1 : prt ⟨8, 0, 0, pby [97]⟩ = some [34, 97, 34] := prt_bytes1 (by decide)
  have h2 : prt ⟨8, 0, 0, pby [98]⟩ = some [34, 98, 34] := prt_bytes1 (by decide)
  have hr : rowt [(0, ⟨8, 0, 0, pby [97]⟩), (1, ⟨8, 0, 0, pby [98]⟩)] = some [34, 97, 34, 32, 34, 98, 34] := by
    rw [rowt_cons h1 (rowt_one h2)]
    rfl
  obtain ⟨M, hM, hm⟩ := lxl_rowz (s := tbs [34, 97, 34, 32, 34, 98, 34]) _ _ ((tbs [34, 97, 34, 32, 34, 98, 34]).size + 1) 0 [] hr (hat_self (rowt_sml hr)) (by rw [tbs_size]; rfl) (by rw [tbs_size]; decide)
  rw [List.nil_append] at hM
  match M, hm with
  | [u, v], hm =>
    obtain ⟨⟨k1, _, _⟩, p1, T, hT, ⟨k2, _, _⟩, p2, _⟩ := hm
    simp only at k1 k2 p1 p2 hT
    rw [h1] at hT
    cases hT
    have hl : lex1 (tbs [34, 97, 34, 32, 34, 98, 34]) = .ok [u, v] := by
      unfold lex1
      rw [if_neg (by rw [tbs_size]; decide), hM]
    obtain ⟨_, e2, e3⟩ := lex_ok hl
    unfold qpar
    rw [if_neg (by omega), e3]
    have hq : qry (itq 2) [u, v] = .ok (⟨⟨1, 0, u.p, 0⟩, []⟩, [v]) := by
      refine qry_item ?_ (by show v.kind ≠ 3; omega) (by show v.kind ≠ 4; omega)
      rw [itq_step, if_neg (by omega), if_neg (by omega), if_pos k1]
      simp only
      rw [if_neg (by omega)]
    show (match qry (itq 2) [u, v] with
      | .error r => ([], plq _ r, 140)
      | .ok (X, t :: r) => ([], plq _ (t :: r), 140)
      | .ok (X, []) => if 64 < X.flat.length then ([], 0, 142) else if 16 < X.dep then ([], 0, 141) else (X.flat, _, 0)) = _
    rw [hq]
    show ([], v.at', 140) = _
    rw [p2]
    rfl

end Cls

end Go.Proofs.YtbnnobeahliffaaGreatDoor

set_option linter.unusedVariables false
namespace Go.Proofs.YtbnnobeahliffaaGreatDoor
open Go.RowKit
namespace Cls

/-- The text of a row, if it is right. -/
def qpt (l : List Qn) : Option (List Nat) := if qrg l = true then some (match unf l.length l with | some (t, _) => t.txt | none => []) else none

theorem qpt_tree {t : Qt} (h : t.ok) (hr : qrg t.flat = true) : qpt t.flat = some t.txt := by
  have := unf_flat t h t.flat.length [] (Nat.le_refl _)
  rw [List.append_nil] at this
  unfold qpt
  rw [if_pos hr, this]

theorem print14_any (hP : ∀ (x : Tv) (v : World), x.ok v → Calls Tryz.prog 52 #[x.val] v fun e w' => Rdx (prI x.i) e ∧ Below v.heap.size v w') (n cap : Nat) (so : Option Addr) (L : List Qv) (hn : L.length = n) (w : World) (hL : QR w so L) :
    Calls Tryz.prog 12 #[.slice so n cap] w fun e w' => Rdx (qpt (qis L)) e ∧ Below w.heap.size w w' := by
  unfold Rdx
  have CR : Hid _ := right14_any n cap so L hn w hL
  cases hq : qrg (qis L) with
  | false =>
    have HR : Hid (qpt (qis L) = none) := by show _ = _; unfold qpt; rw [if_neg (by rw [hq]; decide)]
    rw [hq] at CR
    generalize qpt (qis L) = r at *
    clear hq hL hP
    go_enter Tryz.func12, Tryz.ntmps12
    go_wp2_with fail
    refine Calls.mono CR.out ?_; rintro e w1 ⟨rfl, b1⟩
    have B1 : Hid (Below w.heap.size w w1) := b1
    clear b1 CR
    go_wp2_with fail
    try simp only [Exit.noGoto]
    refine bodyPost_ret (results_tmp2 rfl _ _ _) rfl ?_
    exact ⟨by rw [HR.out]; rfl, B1.out⟩
  | true =>
    obtain ⟨t, h1, h2, h3, h4, h5⟩ := qrg_tree hq
    have HR : Hid (qpt (qis L) = some t.txt) := by
      show _ = _
      rw [h2] at hq ⊢
      exact qpt_tree h1 hq
    rw [hq] at CR
    have CT : Hid (∀ v : World, Below w.heap.size w v → Calls Tryz.prog 29 #[.slice so n cap, .int .i64 0] v fun e w' => e = .returned (.tuple #[.string (tbs t.txt), .int .i64 ((0 + t.flat.length : Nat) : Int)]) ∧ Below v.heap.size v w') := fun v hv => text14_any hP n cap so L hn t ⟨h1, h5⟩ 0 [] v (hL.grow hv) (by rw [List.drop_zero, List.append_nil, h2])
    generalize qpt (qis L) = r at *
    obtain ⟨tt, htt⟩ : ∃ tt, tbs t.txt = tt := ⟨_, rfl⟩
    have HTT : Hid (tbs t.txt = tt) := htt
    rw [htt] at CT
    clear hq h2 hL hP htt
    go_enter Tryz.func12, Tryz.ntmps12
    go_wp2_with fail
    refine Calls.mono CR.out ?_; rintro e w1 ⟨rfl, b1⟩
    have B1 : Hid (Below w.heap.size w w1) := b1
    clear b1 CR
    go_wp2_with fail
    refine Calls.mono (CT.out w1 B1.out) ?_; rintro e w2 ⟨rfl, b2⟩
    have B2 : Hid (Below w.heap.size w w2) := bgrow' B1.out b2
    clear b2 CT B1
    go_wp2_with fail
    try simp only [Exit.noGoto]
    refine bodyPost_ret (results_tmp2 rfl _ _ _) rfl ?_
    exact ⟨by rw [HR.out, ← HTT.out]; rfl, B2.out⟩

theorem lng_snoc (l : List Qn) (x : Qn) : lng (l ++ [x]) = if x.kind = 1 ∧ lng l < x.p.length then x.p.length else lng l := by
  unfold lng
  rw [List.foldl_append]
  rfl

theorem lng_le (l : List Qn) (N : Nat) (h : ∀ x ∈ l, x.p.length ≤ N) : lng l ≤ N := by
  have : ∀ (l : List Qn) (m : Nat), m ≤ N → (∀ x ∈ l, x.p.length ≤ N) → l.foldl (fun m x => if x.kind = 1 ∧ m < x.p.length then x.p.length else m) m ≤ N := by
    intro l
    induction l with
    | nil => intro m hm _; exact hm
    | cons x l ih =>
      intro m hm h
      rw [List.foldl_cons]
      refine ih _ ?_ (fun y hy => h y (List.mem_cons_of_mem _ hy))
      split
      · exact h x (List.mem_cons_self ..)
      · exact hm
  exact this l 0 (Nat.zero_le _) h

end Cls

end Go.Proofs.YtbnnobeahliffaaGreatDoor

set_option linter.unusedVariables false
namespace Go.Proofs.YtbnnobeahliffaaGreatDoor
namespace Cls

/-- A text stands within another one, at a place. -/
structure Ats (s u : ByteArray) (d : Nat) : Prop where
  l : d + s.size ≤ u.size
  e : ∀ k, k < s.size → byt u (d + k) = byt s k

theorem Ats.e1 {s u : ByteArray} {d : Nat} (h : Ats s u d) (q j : Nat) (hq : q + j < s.size) : byt u (d + q + j) = byt s (q + j) := by rw [Nat.add_assoc]; exact h.e _ hq

theorem esp_sh {s u : ByteArray} {d q b n : Nat} (h : Ats s u d) (he : esp s q = .ok (b, n)) : esp u (d + q) = .ok (b, d + n) := by
  have hl := h.l
  unfold esp at he ⊢
  split at he
  · rename_i hc
    simp only [Except.ok.injEq, Prod.mk.injEq] at he
    obtain ⟨rfl, rfl⟩ := he
    rw [h.e1 q 1 (by omega), if_pos ⟨by omega, hc.2⟩, Nat.add_assoc]
  · rename_i hc
    split at he
    · rename_i hd
      simp only [Except.ok.injEq, Prod.mk.injEq] at he
      obtain ⟨rfl, rfl⟩ := he
      rw [h.e1 q 1 (by omega), h.e1 q 2 (by omega), h.e1 q 3 (by omega), if_neg (fun e => hc ⟨by omega, e.2⟩), if_pos ⟨by omega, hd.2⟩, Nat.add_assoc]
    · cases he

theorem itm_sh {s u : ByteArray} {d q b n : Nat} (h : Ats s u d) (he : itm s q = .ok (b, n)) : itm u (d + q) = .ok (b, d + n) := by
  have hx := itm_next he
  have hl := h.l
  unfold itm at he ⊢
  rw [h.e q (by omega), if_neg (by omega)]
  rw [if_neg (by omega)] at he
  split at he
  · rename_i h1
    rw [if_pos h1]
    exact esp_sh h he
  · rename_i h1
    rw [if_neg h1]
    split at he
    · cases he
    · rename_i h2
      rw [if_neg h2]
      simp only [Except.ok.injEq, Prod.mk.injEq] at he
      obtain ⟨rfl, rfl⟩ := he
      rw [Nat.add_assoc]

theorem cli_sh {s u : ByteArray} {d : Nat} (h : Ats s u d) : ∀ (fuel fuel' q : Nat) (out : Nat → Bool) (items : Nat) (o : (Nat → Bool) × Nat) (n : Nat), cli s fuel q out items = .ok (o, n) → n - q < fuel' → cli u fuel' (d + q) out items = .ok (o, d + n)
  | 0, _, _, _, _, _, _, he, _ => by cases he
  | fuel + 1, fuel', q, out, items, o, n, he, hf => by
    have hl := h.l
    have hq := cli_next (fuel + 1) q out items o.1 o.2 n he
    obtain ⟨f', rfl⟩ : ∃ f', fuel' = f' + 1 := ⟨fuel' - 1, by omega⟩
    rw [cli] at he ⊢
    rw [h.e q (by omega)]
    split at he
    · rename_i hc
      rw [if_pos ⟨by omega, hc.2⟩]
      simp only [Except.ok.injEq, Prod.mk.injEq] at he
      obtain ⟨rfl, rfl⟩ := he
      rfl
    · rename_i hc
      rw [if_neg (fun e => hc ⟨by omega, e.2⟩)]
      split at he
      · cases he
      · rename_i a at1 e1
        have n1 := itm_next e1
        split at he
        · rename_i h45
          split at he
          · cases he
          · rename_i b at2 e2
            have n2 := itm_next e2
            split at he
            · cases he
            · rename_i hab
              have hq2 := (cli_next fuel at2 _ _ o.1 o.2 n he).1
              rw [itm_sh h e1]
              simp only
              rw [h.e at1 (by omega), if_pos ⟨by omega, h45.2⟩, Nat.add_assoc, itm_sh h e2]
              simp only
              rw [if_neg hab]
              exact cli_sh h fuel f' at2 _ _ o n he (by omega)
        · rename_i h45
          have hq2 := (cli_next fuel at1 _ _ o.1 o.2 n he).1
          rw [itm_sh h e1]
          simp only
          rw [h.e at1 (by omega), if_neg (fun e => h45 ⟨by omega, e.2⟩)]
          exact cli_sh h fuel f' at1 _ _ o n he (by omega)

theorem clr_sh {s u : ByteArray} {d q n : Nat} {o : Nat → Bool} (h : Ats s u d) (he : clr s q = .ok (o, n)) : clr u (d + q) = .ok (o, d + n) := by
  have hl := h.l
  unfold clr at he ⊢
  cases e1 : cli s (s.size + 1) (if q + 1 < s.size ∧ byt s (q + 1) = 94 then q + 2 else q + 1) (fun _ => false) 0 with
  | error e => rw [e1] at he; cases he
  | ok x =>
    obtain ⟨⟨out, items⟩, at1⟩ := x
    rw [e1] at he
    simp only at he
    have hx := cli_next _ _ _ _ _ _ _ e1
    have hq1 : q + 1 ≤ at1 := by
      have := hx.1
      split at this <;> omega
    have hcond : (d + q + 1 < u.size ∧ byt u (d + q + 1) = 94) = (q + 1 < s.size ∧ byt s (q + 1) = 94) := by
      rw [h.e1 q 1 (by omega)]
      exact propext ⟨fun e => ⟨by omega, e.2⟩, fun e => ⟨by omega, e.2⟩⟩
    have hpl : (if q + 1 < s.size ∧ byt s (q + 1) = 94 then d + q + 2 else d + q + 1) = d + (if q + 1 < s.size ∧ byt s (q + 1) = 94 then q + 2 else q + 1) := by
      split <;> omega
    simp only [hcond]
    rw [hpl, cli_sh h _ (u.size + 1) _ _ _ _ _ e1 (by omega)]
    simp only
    by_cases hc : items = 0 ∨ cb (if q + 1 < s.size ∧ byt s (q + 1) = 94 then fun x => !out x else out) 0 256 = 0
    · rw [if_pos hc] at he; cases he
    · rw [if_neg hc] at he ⊢
      simp only [Except.ok.injEq, Prod.mk.injEq] at he
      obtain ⟨rfl, rfl⟩ := he
      rw [Nat.add_assoc]

theorem elm_sh {s u : ByteArray} {d q n : Nat} {o : Nat → Bool} (h : Ats s u d) (hq : q < s.size) (he : elm s q = .ok (o, n)) : elm u (d + q) = .ok (o, d + n) := by
  unfold elm at he ⊢
  rw [h.e q (by omega)]
  split at he
  · rename_i h1
    rw [if_pos h1]
    simp only [Except.ok.injEq, Prod.mk.injEq] at he
    obtain ⟨rfl, rfl⟩ := he
    rw [Nat.add_assoc]
  rename_i h1
  rw [if_neg h1]
  split at he
  · rename_i h2
    rw [if_pos h2]
    exact clr_sh h he
  rename_i h2
  rw [if_neg h2]
  split at he
  · rename_i h3
    rw [if_pos h3]
    split at he
    · cases he
    · rename_i b k e1
      simp only [Except.ok.injEq, Prod.mk.injEq] at he
      obtain ⟨rfl, rfl⟩ := he
      rw [esp_sh h e1]
  · rename_i h3
    rw [if_neg h3]
    split at he
    · cases he
    · rename_i h4
      rw [if_neg h4]
      simp only [Except.ok.injEq, Prod.mk.injEq] at he
      obtain ⟨rfl, rfl⟩ := he
      rw [Nat.add_assoc]

theorem ptl_far {s : ByteArray} {fuel q : Nat} {out P : List (Nat → Bool)} {n : Nat} (he : ptl s fuel q out = .ok (P, n)) : q < n := by
  induction fuel generalizing q out with
  | zero => cases he
  | succ f ih =>
    rw [ptl] at he
    split at he
    · cases he
    split at he
    · split at he
      · cases he
      · simp only [Except.ok.injEq, Prod.mk.injEq] at he; omega
    split at he
    · cases he
    split at he
    · cases he
    · rename_i c k e1
      have := elm_next (by omega) e1
      have := ih he
      omega

theorem ptl_sh {s u : ByteArray} {d : Nat} (h : Ats s u d) : ∀ (fuel fuel' q : Nat) (out P : List (Nat → Bool)) (n : Nat), ptl s fuel q out = .ok (P, n) → n - q ≤ fuel' → ptl u fuel' (d + q) out = .ok (P, d + n)
  | 0, _, _, _, _, _, he, _ => by cases he
  | fuel + 1, fuel', q, out, P, n, he, hf => by
    have hl := h.l
    have hfar := ptl_far he
    obtain ⟨f', rfl⟩ : ∃ f', fuel' = f' + 1 := ⟨fuel' - 1, by omega⟩
    rw [ptl] at he
    split at he
    · cases he
    rename_i hq
    split at he
    · rename_i h34
      split at he
      · cases he
      · rename_i h0
        simp only [Except.ok.injEq, Prod.mk.injEq] at he
        obtain ⟨rfl, rfl⟩ := he
        rw [ptl, if_neg (by omega), h.e q (by omega), if_pos h34, if_neg h0, Nat.add_assoc]
    rename_i h34
    split at he
    · cases he
    rename_i h64
    split at he
    · cases he
    · rename_i c k e1
      have n1 := elm_next (by omega) e1
      have n2 := ptl_far he
      rw [ptl, if_neg (by omega), h.e q (by omega), if_neg h34, if_neg h64, elm_sh h (by omega) e1]
      exact ptl_sh h fuel f' k _ P n he (by omega)

/-- No digit stands behind the text. -/
def Nd0 (s u : ByteArray) (d : Nat) : Prop := ¬ (d + s.size < u.size ∧ dig (byt u (d + s.size)) = true)

theorem nml_sh {s u : ByteArray} {d : Nat} (h : Ats s u d) (hn : Nd0 s u d) : ∀ (fuel fuel' q m : Nat), q ≤ s.size → s.size < fuel + q → s.size < fuel' + q → nml u fuel' (d + q) m = (d + (nml s fuel q m).1, (nml s fuel q m).2)
  | 0, _, q, m, hq, h1, _ => by omega
  | fuel + 1, fuel', q, m, hq, h1, h2 => by
    have hl := h.l
    obtain ⟨f', rfl⟩ : ∃ f', fuel' = f' + 1 := ⟨fuel' - 1, by omega⟩
    rw [nml, nml]
    by_cases hlt : q < s.size
    · rw [h.e q hlt]
      by_cases hd : dig (byt s q) = true
      · have g1 : d + q < u.size ∧ dig (byt s q) = true := ⟨by omega, hd⟩
        have g2 : q < s.size ∧ dig (byt s q) = true := ⟨hlt, hd⟩
        rw [if_pos g1, if_pos g2, Nat.add_assoc]
        exact nml_sh h hn fuel f' (q + 1) _ (by omega) (by omega) (by omega)
      · rw [if_neg (fun e => hd e.2), if_neg (fun e => hd e.2)]
    · have : q = s.size := by omega
      subst this
      rw [if_neg hn, if_neg (fun e => hlt e.1)]

theorem nmb_sh {s u : ByteArray} {d q m n : Nat} (h : Ats s u d) (hn : Nd0 s u d) (hq : q ≤ s.size) (he : nmb s q = .ok (m, n)) : nmb u (d + q) = .ok (m, d + n) := by
  have hl := h.l
  have e := nml_sh h hn (s.size + 1) (u.size + 1) q 0 hq (by omega) (by omega)
  have hx := nmb_next he
  unfold nmb at he ⊢
  rw [e]
  simp only
  split at he
  · cases he
  · rename_i hc
    simp only [Except.ok.injEq, Prod.mk.injEq] at he
    obtain ⟨rfl, rfl⟩ := he
    rw [h.e q (by omega), if_neg]
    rintro (g | g | g)
    · exact hc (.inl (by omega))
    · exact hc (.inr (.inl ⟨g.1, by omega⟩))
    · exact hc (.inr (.inr g))

/-- A token further behind. -/
def tsh (d : Nat) (t : Tk) : Tk := ⟨t.kind, d + t.at', t.n, t.p⟩

theorem tsh_plo (d : Nat) : Plo (tsh d) := ⟨fun _ => rfl, fun _ => rfl, fun _ => rfl⟩

theorem tok1_sh {s u : ByteArray} {d q n : Nat} {t : Tk} (h : Ats s u d) (hn : Nd0 s u d) (hq : q < s.size) (he : tok1 s q = .ok (t, n)) : tok1 u (d + q) = .ok (tsh d t, d + n) := by
  have hl := h.l
  have hx := tok1_next hq he
  unfold tok1 at he ⊢
  rw [h.e q (by omega)]
  split at he
  · rename_i h1
    rw [if_pos h1]
    split at he
    · cases he
    · rename_i P k e1
      simp only [Except.ok.injEq, Prod.mk.injEq] at he
      obtain ⟨rfl, rfl⟩ := he
      rw [Nat.add_assoc, ptl_sh h _ (u.size + 1) _ _ _ _ e1 (by omega)]
      rfl
  rename_i h1
  rw [if_neg h1]
  split at he
  · cases he
  rename_i h2
  rw [if_neg h2]
  split at he
  · rename_i h3
    rw [if_pos h3]
    simp only [Except.ok.injEq, Prod.mk.injEq] at he
    obtain ⟨rfl, rfl⟩ := he
    rw [Nat.add_assoc]
    rfl
  · rename_i h3
    rw [if_neg h3]
    split at he
    · cases he
    · rename_i v k e1
      simp only [Except.ok.injEq, Prod.mk.injEq] at he
      obtain ⟨rfl, rfl⟩ := he
      rw [Nat.add_assoc, nmb_sh h hn (by omega) e1]
      rfl

/-- All tokens of a text within another one. -/
theorem lxl_sh {s u : ByteArray} {d : Nat} (h : Ats s u d) (hn : Nd0 s u d) : ∀ (f q : Nat) (out L : List Tk), q ≤ s.size → lxl s f q out = .ok L → ∃ L' c, L = out ++ L' ∧ c + q ≤ s.size ∧ ∀ g outU, lxl u (g + c) (d + q) outU = lxl u g (d + s.size) (outU ++ L'.map (tsh d))
  | 0, _, _, _, _, he => by cases he
  | f + 1, q, out, L, hq, he => by
    have hl := h.l
    rw [lxl] at he
    split at he
    · simp only [Except.ok.injEq] at he
      subst he
      have : q = s.size := by omega
      subst this
      exact ⟨[], 0, by simp, by omega, fun g outU => by simp⟩
    rename_i hlt
    split at he
    · rename_i h32
      obtain ⟨L', c, h1, h2, h3⟩ := lxl_sh h hn f (q + 1) out L (by omega) he
      refine ⟨L', c + 1, h1, by omega, fun g outU => ?_⟩
      rw [← Nat.add_assoc g c 1, lxl, if_neg (by omega), h.e q (by omega), if_pos h32, Nat.add_assoc d q 1]
      exact h3 g outU
    · rename_i h32
      split at he
      · cases he
      · rename_i t n e1
        have n1 := tok1_next (by omega) e1
        obtain ⟨L', c, h1, h2, h3⟩ := lxl_sh h hn f n (out ++ [t]) L n1.2.1 he
        refine ⟨t :: L', c + 1, by rw [h1]; simp, by omega, fun g outU => ?_⟩
        rw [← Nat.add_assoc g c 1, lxl, if_neg (by omega), h.e q (by omega), if_neg h32, tok1_sh h hn (by omega) e1]
        simp only
        rw [h3 g, List.map_cons, List.append_assoc]
        rfl

/-- A sign without a number, as a token. -/
theorem lxl_sign {u : ByteArray} {p g : Nat} {out : List Tk} {b : Nat} (hp : p < u.size) (hb : byt u p = b) (h1 : b ≠ 34) (h2 : b ≠ 32) (h3 : knd b ≠ 0) (h4 : knd b < 6) : lxl u (g + 1) p out = lxl u g (p + 1) (out ++ [⟨knd b, p, 0, []⟩]) := by
  have e : tok1 u p = .ok (⟨knd b, p, 0, []⟩, p + 1) := by
    unfold tok1
    rw [hb, if_neg h1, if_neg h3, if_pos h4]
  rw [lxl, if_neg (by omega), hb, if_neg h2, e]

/-- The tokens of a text that has no error. -/
theorem lex_good {s : ByteArray} (h : lcd s = 0) : s.size ≤ 1000 ∧ lxl s (s.size + 1) 0 [] = .ok (lls s) := by
  obtain ⟨h1, h2, _⟩ := lex_told h
  unfold lex1 at h2
  rw [if_neg (by omega)] at h2
  exact ⟨h1, h2⟩

theorem lex_of {u : ByteArray} {L : List Tk} (hn : u.size ≤ 1000) (h : lxl u (u.size + 1) 0 [] = .ok L) : lcd u = 0 ∧ lls u = L := by
  have h1 : lex1 u = .ok L := by
    unfold lex1
    rw [if_neg (by omega)]
    exact h
  obtain ⟨_, h2, h3⟩ := lex_ok h1
  exact ⟨h2, h3⟩

theorem byt_behind (s u : ByteArray) (t : Nat) (h : t < u.size) : byt (s ++ u) (s.size + t) = byt u t := by
  have h2 : s.size + t < (s ++ u).size := by rw [ByteArray.size_append]; omega
  rw [byt_at (s ++ u) _ h2, byt_at u t h, ByteArray.getElem_append_right (by omega)]
  simp

end Cls

end Go.Proofs.YtbnnobeahliffaaGreatDoor

set_option linter.unusedVariables false
namespace Go.Proofs.YtbnnobeahliffaaGreatDoor
namespace Cls

theorem ats_left (s r : ByteArray) : Ats s (s ++ r) 0 := ⟨by rw [ByteArray.size_append]; omega, fun k hk => by rw [Nat.zero_add]; exact byt_more s r k hk⟩

theorem ats_right (a s : ByteArray) : Ats s (a ++ s) a.size := ⟨by rw [ByteArray.size_append]; omega, fun k hk => byt_behind a s k hk⟩

theorem Ats.trans {s u v : ByteArray} {d e : Nat} (h : Ats s u d) (h' : Ats u v e) : Ats s v (e + d) := by
  have h1 := h.l
  have h2 := h'.l
  refine ⟨by omega, fun k hk => ?_⟩
  rw [Nat.add_assoc, h'.e (d + k) (by omega)]
  exact h.e k hk

/-- The tokens of two texts with a sign between. -/
theorem lex_join {s t x : ByteArray} {b : Nat} (hx : x.size = 1) (hb : byt x 0 = b) (h1 : b ≠ 34) (h2 : b ≠ 32) (h3 : knd b ≠ 0) (h4 : knd b < 6) (hd : dig b = false) (hs : lcd s = 0) (ht : lcd t = 0) (hn : ((s ++ x) ++ t).size ≤ 1000) :
    lcd ((s ++ x) ++ t) = 0 ∧ lls ((s ++ x) ++ t) = lls s ++ ⟨knd b, s.size, 0, []⟩ :: (lls t).map (tsh (s.size + 1)) := by
  have hz : ((s ++ x) ++ t).size = s.size + 1 + t.size := by rw [ByteArray.size_append, ByteArray.size_append, hx]
  have ha : Ats s ((s ++ x) ++ t) 0 := (ats_left s x).trans (ats_left (s ++ x) t)
  have hc : Ats t ((s ++ x) ++ t) (s.size + 1) := by
    have := ats_right (s ++ x) t
    rw [ByteArray.size_append, hx] at this
    exact this
  have hsb : byt ((s ++ x) ++ t) s.size = b := by
    rw [byt_more _ _ _ (by rw [ByteArray.size_append, hx]; omega)]
    have := byt_behind s x 0 (by omega)
    rw [Nat.add_zero] at this
    rw [this, hb]
  generalize (s ++ x) ++ t = u at *
  obtain ⟨_, hls⟩ := lex_good hs
  obtain ⟨_, hlt⟩ := lex_good ht
  obtain ⟨L', c, e1, g1, k1⟩ := lxl_sh ha (fun e => by rw [Nat.zero_add, hsb, hd] at e; exact absurd e.2 (by decide)) _ _ _ _ (Nat.zero_le _) hls
  obtain ⟨M', c', e2, g2, k2⟩ := lxl_sh hc (fun e => by have := e.1; omega) _ _ _ _ (Nat.zero_le _) hlt
  rw [List.nil_append] at e1 e2
  subst e1 e2
  refine lex_of hn ?_
  obtain ⟨g, hg⟩ : ∃ g, u.size + 1 = (((g + 1) + c') + 1) + c := ⟨u.size - 1 - c - c', by omega⟩
  have k1' := k1 (((g + 1) + c') + 1) []
  simp only [Nat.zero_add, List.nil_append] at k1'
  have k2' := k2 (g + 1) ((lls s).map (tsh 0) ++ [⟨knd b, s.size, 0, []⟩])
  rw [Nat.add_zero] at k2'
  rw [hg, k1', lxl_sign (by omega) hsb h1 h2 h3 h4, k2', lxl, if_pos (by omega)]
  have h0 : tsh 0 = id := by
    funext t
    obtain ⟨a, b, c, d⟩ := t
    show (⟨a, 0 + b, c, d⟩ : Tk) = ⟨a, b, c, d⟩
    rw [Nat.zero_add]
  rw [h0, List.map_id, List.append_assoc]
  rfl

theorem qpar_of {u : ByteArray} {L : List Tk} {X : Qt} (hc : lcd u = 0) (hl : lls u = L) (h : qry (itq L.length) L = .ok (X, [])) (h1 : X.flat.length ≤ 64) (h2 : X.dep ≤ 16) : qpar u = (X.flat, u.size, 0) := by
  unfold qpar
  rw [if_neg (by omega), hl, h]
  simp only
  rw [if_neg (by omega), if_neg (by omega)]

/-- Two queries with an Or between. -/
theorem qpar_or {s t : ByteArray} {l m : List Qn} {p p' : Nat} (hs : qpar s = (l, p, 0)) (ht : qpar t = (m, p', 0)) (hn : s.size + t.size ≤ 900) (hl : l.length + m.length < 64) (hd : max (qdep l) (qdep m) < 16) (hm : ∀ y M, m = y :: M → y.kind ≠ 3) :
    qpar ((s ++ ⟨#[124]⟩) ++ t) = (⟨3, 0, [], 0⟩ :: (l ++ m), ((s ++ ⟨#[124]⟩) ++ t).size, 0) := by
  obtain ⟨_, hcs, X, hX, rfl, _, _, eX⟩ := qpar_ok hs
  obtain ⟨_, hct, Y, hY, rfl, _, _, eY⟩ := qpar_ok ht
  obtain ⟨L, hL⟩ := Y.head
  rw [qdep_flat X hX.1, qdep_flat Y hY.1] at hd
  have hk := hm _ _ hL
  have hz : ((s ++ ⟨#[124]⟩) ++ t).size = s.size + 1 + t.size := by rw [ByteArray.size_append, ByteArray.size_append]; rfl
  obtain ⟨h1, h2⟩ := lex_join (s := s) (t := t) (x := ⟨#[124]⟩) (b := 124) rfl (by rfl) (by decide) (by decide) (by decide) (by decide) (by decide) hcs hct (by omega)
  have h3 := qry_or (tsh_plo (s.size + 1)) (o := ⟨knd 124, s.size, 0, []⟩) rfl eX eY hk
  have := qpar_of h1 h2 h3 (by rw [Qt.flat2, List.length_cons, List.length_append]; omega) (by rw [Qt.dep2]; omega)
  rw [Qt.flat2] at this
  exact this

/-- Two queries with an And between. -/
theorem qpar_and {s t : ByteArray} {l m : List Qn} {p p' : Nat} (hs : qpar s = (l, p, 0)) (ht : qpar t = (m, p', 0)) (hn : s.size + t.size ≤ 900) (hl : l.length + m.length < 64) (hd : max (qdep l) (qdep m) < 16) (hk : ∀ y M, l = y :: M → y.kind ≠ 3) (hm : ∀ y M, m = y :: M → y.kind ≠ 3 ∧ y.kind ≠ 2) :
    qpar ((s ++ ⟨#[38]⟩) ++ t) = (⟨2, 0, [], 0⟩ :: (l ++ m), ((s ++ ⟨#[38]⟩) ++ t).size, 0) := by
  obtain ⟨_, hcs, X, hX, rfl, _, _, eX⟩ := qpar_ok hs
  obtain ⟨_, hct, Y, hY, rfl, _, _, eY⟩ := qpar_ok ht
  obtain ⟨L, hL⟩ := X.head
  obtain ⟨M, hM⟩ := Y.head
  rw [qdep_flat X hX.1, qdep_flat Y hY.1] at hd
  have hk := hk _ _ hL
  obtain ⟨hm1, hm2⟩ := hm _ _ hM
  have hz : ((s ++ ⟨#[38]⟩) ++ t).size = s.size + 1 + t.size := by rw [ByteArray.size_append, ByteArray.size_append]; rfl
  obtain ⟨h1, h2⟩ := lex_join (s := s) (t := t) (x := ⟨#[38]⟩) (b := 38) rfl (by rfl) (by decide) (by decide) (by decide) (by decide) (by decide) hcs hct (by omega)
  have h3 := qry_and (tsh_plo (s.size + 1)) (o := ⟨knd 38, s.size, 0, []⟩) rfl eX eY hk hm1 hm2
  have := qpar_of h1 h2 h3 (by rw [Qt.flat2, List.length_cons, List.length_append]; omega) (by rw [Qt.dep2]; omega)
  rw [Qt.flat2] at this
  exact this

/-- The tokens of a text with others ahead and behind. -/
theorem lex_within {s u : ByteArray} {d : Nat} (h : Ats s u d) (hn : Nd0 s u d) (hs : lcd s = 0) {f p : Nat} {out : List Tk} (hd : ∀ g, lxl u (g + f) 0 [] = lxl u g d out) {L : List Tk} {f2 : Nat} (hb : ∀ g o, lxl u (g + f2) (d + s.size) o = .ok (o ++ L)) (hz : f + s.size + f2 ≤ u.size + 1) (hu : u.size ≤ 1000) :
    lcd u = 0 ∧ lls u = out ++ ((lls s).map (tsh d) ++ L) := by
  obtain ⟨_, hls⟩ := lex_good hs
  obtain ⟨L', c, e1, g1, k1⟩ := lxl_sh h hn _ _ _ _ (Nat.zero_le _) hls
  rw [List.nil_append] at e1
  subst e1
  refine lex_of hu ?_
  obtain ⟨g, hg⟩ : ∃ g, u.size + 1 = ((g + f2) + c) + f := ⟨u.size + 1 - f2 - c - f, by omega⟩
  have k1' := k1 (g + f2) out
  rw [Nat.add_zero] at k1'
  rw [hg, hd, k1', hb, List.append_assoc]

/-- Two pairs of brackets around a query. -/
theorem qpar_brk {s : ByteArray} {l : List Qn} {p : Nat} (hs : qpar s = (l, p, 0)) (hn : s.size ≤ 500) : qpar (((⟨#[40, 40]⟩ : ByteArray) ++ s) ++ ⟨#[41, 41]⟩) = (l, (((⟨#[40, 40]⟩ : ByteArray) ++ s) ++ ⟨#[41, 41]⟩).size, 0) := by
  obtain ⟨_, hcs, X, hX, rfl, h64, h16, eX⟩ := qpar_ok hs
  have hz : (((⟨#[40, 40]⟩ : ByteArray) ++ s) ++ ⟨#[41, 41]⟩).size = s.size + 4 := by rw [ByteArray.size_append, ByteArray.size_append]; show 2 + s.size + 2 = _; omega
  have ha : Ats s (((⟨#[40, 40]⟩ : ByteArray) ++ s) ++ ⟨#[41, 41]⟩) 2 := by
    have := (ats_right (⟨#[40, 40]⟩ : ByteArray) s).trans (ats_left _ (⟨#[41, 41]⟩ : ByteArray))
    rw [Nat.zero_add] at this
    exact this
  have c0 : byt (((⟨#[40, 40]⟩ : ByteArray) ++ s) ++ ⟨#[41, 41]⟩) 0 = 40 := by
    rw [byt_more _ _ _ (by rw [ByteArray.size_append]; show 0 < 2 + s.size; omega), byt_more _ _ _ (by decide)]
    rfl
  have c1 : byt (((⟨#[40, 40]⟩ : ByteArray) ++ s) ++ ⟨#[41, 41]⟩) 1 = 40 := by
    rw [byt_more _ _ _ (by rw [ByteArray.size_append]; show 1 < 2 + s.size; omega), byt_more _ _ _ (by decide)]
    rfl
  have hz2 : ((⟨#[40, 40]⟩ : ByteArray) ++ s).size = 2 + s.size := by rw [ByteArray.size_append]; rfl
  have c2 : byt (((⟨#[40, 40]⟩ : ByteArray) ++ s) ++ ⟨#[41, 41]⟩) (2 + s.size) = 41 := by
    have := byt_behind ((⟨#[40, 40]⟩ : ByteArray) ++ s) ⟨#[41, 41]⟩ 0 (by decide)
    rw [hz2, Nat.add_zero] at this
    rw [this]
    rfl
  have c3 : byt (((⟨#[40, 40]⟩ : ByteArray) ++ s) ++ ⟨#[41, 41]⟩) (2 + s.size + 1) = 41 := by
    have := byt_behind ((⟨#[40, 40]⟩ : ByteArray) ++ s) ⟨#[41, 41]⟩ 1 (by decide)
    rw [hz2] at this
    rw [this]
    rfl
  generalize ((⟨#[40, 40]⟩ : ByteArray) ++ s) ++ ⟨#[41, 41]⟩ = u at *
  obtain ⟨h1, h2⟩ := lex_within (f := 2) (p := 0) (f2 := 3) ha (fun e => by rw [c2] at e; exact absurd e.2 (by decide)) hcs (out := [⟨1, 0, 0, []⟩, ⟨1, 1, 0, []⟩]) (fun g => by
      rw [lxl_sign (by omega) c0 (by decide) (by decide) (by decide) (by decide), lxl_sign (by omega) c1 (by decide) (by decide) (by decide) (by decide)]
      rfl) (L := [⟨2, 2 + s.size, 0, []⟩, ⟨2, 2 + s.size + 1, 0, []⟩]) (fun g o => by
      rw [lxl_sign (by omega) c2 (by decide) (by decide) (by decide) (by decide), lxl_sign (by omega) c3 (by decide) (by decide) (by decide) (by decide), lxl, if_pos (by omega), List.append_assoc]
      rfl) (by omega) (by omega)
  refine qpar_of h1 h2 ?_ h64 h16
  have hlen : ([⟨1, 0, 0, []⟩, ⟨1, 1, 0, []⟩] ++ ((lls s).map (tsh 2) ++ [⟨2, 2 + s.size, 0, []⟩, ⟨2, 2 + s.size + 1, 0, []⟩]) : List Tk).length = (lls s).length + 3 + 1 := by simp
  rw [hlen]
  have k1 := itq_brk (tsh_plo 2) (R := [⟨2, 2 + s.size + 1, 0, []⟩]) (o := ⟨1, 1, 0, []⟩) (c := ⟨2, 2 + s.size, 0, []⟩) rfl rfl eX ((lls s).length + 3) (by omega)
  have k2 := qry_item k1 (by show (2 : Nat) ≠ 3; omega) (by show (2 : Nat) ≠ 4; omega)
  refine qry_item ?_ (show nk 3 [] from trivial) (show nk 4 [] from trivial)
  show itq ((lls s).length + 3 + 1) (⟨1, 0, 0, []⟩ :: ⟨1, 1, 0, []⟩ :: ((lls s).map (tsh 2) ++ [⟨2, 2 + s.size, 0, []⟩, ⟨2, 2 + s.size + 1, 0, []⟩])) = _
  rw [itq_step, if_neg (by decide), if_neg (by decide), if_neg (by decide), if_pos rfl, k2]
  rfl

/-- A Not and a Shift ahead of a query between brackets. -/
theorem qpar_nsh {s : ByteArray} {l : List Qn} {p : Nat} (hs : qpar s = (l, p, 0)) (hn : s.size ≤ 500) (hl : l.length ≤ 62) (hd : qdep l ≤ 14) : qpar (((⟨#[33, 62, 55, 40]⟩ : ByteArray) ++ s) ++ ⟨#[41]⟩) = (⟨4, 0, [], 0⟩ :: ⟨5, 7, [], 0⟩ :: l, (((⟨#[33, 62, 55, 40]⟩ : ByteArray) ++ s) ++ ⟨#[41]⟩).size, 0) := by
  obtain ⟨_, hcs, X, hX, rfl, h64, h16, eX⟩ := qpar_ok hs
  rw [qdep_flat X hX.1] at hd
  have hz : (((⟨#[33, 62, 55, 40]⟩ : ByteArray) ++ s) ++ ⟨#[41]⟩).size = s.size + 5 := by rw [ByteArray.size_append, ByteArray.size_append]; show 4 + s.size + 1 = _; omega
  have ha : Ats s (((⟨#[33, 62, 55, 40]⟩ : ByteArray) ++ s) ++ ⟨#[41]⟩) 4 := by
    have := (ats_right (⟨#[33, 62, 55, 40]⟩ : ByteArray) s).trans (ats_left _ (⟨#[41]⟩ : ByteArray))
    rw [Nat.zero_add] at this
    exact this
  have cc : ∀ j, j < 4 → byt (((⟨#[33, 62, 55, 40]⟩ : ByteArray) ++ s) ++ ⟨#[41]⟩) j = byt ⟨#[33, 62, 55, 40]⟩ j := fun j hj => by
    rw [byt_more _ _ _ (by rw [ByteArray.size_append]; show j < 4 + s.size; omega), byt_more _ _ _ (by show j < 4; omega)]
  have c0 := cc 0 (by omega)
  have c1 := cc 1 (by omega)
  have c2 := cc 2 (by omega)
  have c3 := cc 3 (by omega)
  have hz2 : ((⟨#[33, 62, 55, 40]⟩ : ByteArray) ++ s).size = 4 + s.size := by rw [ByteArray.size_append]; rfl
  have c4 : byt (((⟨#[33, 62, 55, 40]⟩ : ByteArray) ++ s) ++ ⟨#[41]⟩) (4 + s.size) = 41 := by
    have := byt_behind ((⟨#[33, 62, 55, 40]⟩ : ByteArray) ++ s) ⟨#[41]⟩ 0 (by decide)
    rw [hz2, Nat.add_zero] at this
    rw [this]
    rfl
  clear cc
  generalize ((⟨#[33, 62, 55, 40]⟩ : ByteArray) ++ s) ++ ⟨#[41]⟩ = u at *
  replace c0 : byt u 0 = 33 := c0
  replace c1 : byt u 1 = 62 := c1
  replace c2 : byt u 2 = 55 := c2
  replace c3 : byt u 3 = 40 := c3
  have hnum : nmb u 2 = .ok (7, 3) := by
    have hh : hat u 2 (dgs 7) := by
      rw [dgs_one (by omega)]
      exact ⟨by omega, c2, by show 2 + 1 ≤ u.size; omega⟩
    have := nmb_dgs (s := u) (n := 7) (p := 2) (by omega) hh (by rw [dgs_one (by omega)]; intro e; rw [show (2 + [48 + 7].length) = 3 from rfl, c3] at e; exact absurd e.2 (by decide))
    rw [dgs_one (by omega)] at this
    exact this
  have ht1 : tok1 u 1 = .ok (⟨6, 1, 7, []⟩, 3) := by
    unfold tok1
    rw [c1, if_neg (by decide), if_neg (by decide), if_neg (by decide), hnum]
    rfl
  obtain ⟨h1, h2⟩ := lex_within (f := 3) (p := 0) (f2 := 2) ha (fun e => by rw [c4] at e; exact absurd e.2 (by decide)) hcs (out := [⟨5, 0, 0, []⟩, ⟨6, 1, 7, []⟩, ⟨1, 3, 0, []⟩]) (fun g => by
      rw [lxl_sign (by omega) c0 (by decide) (by decide) (by decide) (by decide), lxl, if_neg (by omega), c1, if_neg (by decide), ht1]
      simp only
      rw [lxl_sign (by omega) c3 (by decide) (by decide) (by decide) (by decide)]
      rfl) (L := [⟨2, 4 + s.size, 0, []⟩]) (fun g o => by
      rw [lxl_sign (by omega) c4 (by decide) (by decide) (by decide) (by decide), lxl, if_pos (by omega)]
      rfl) (by omega) (by omega)
  have hflat : (⟨⟨4, 0, [], 0⟩, [⟨⟨5, 7, [], 0⟩, [X]⟩]⟩ : Qt).flat = ⟨4, 0, [], 0⟩ :: ⟨5, 7, [], 0⟩ :: X.flat := by rw [Qt.flat1, Qt.flat1]
  rw [← hflat]
  refine qpar_of h1 h2 ?_ (by rw [hflat]; simp only [List.length_cons]; omega) (by rw [Qt.dep1, Qt.dep1]; omega)
  have hlen : ([⟨5, 0, 0, []⟩, ⟨6, 1, 7, []⟩, ⟨1, 3, 0, []⟩] ++ ((lls s).map (tsh 4) ++ [⟨2, 4 + s.size, 0, []⟩]) : List Tk).length = (lls s).length + 2 + 1 + 1 := by simp
  rw [hlen]
  have k1 := itq_brk (tsh_plo 4) (R := []) (o := ⟨1, 3, 0, []⟩) (c := ⟨2, 4 + s.size, 0, []⟩) rfl rfl eX ((lls s).length + 2) (by omega)
  refine qry_item ?_ (show nk 3 [] from trivial) (show nk 4 [] from trivial)
  show itq ((lls s).length + 2 + 1 + 1) (⟨5, 0, 0, []⟩ :: ⟨6, 1, 7, []⟩ :: ⟨1, 3, 0, []⟩ :: ((lls s).map (tsh 4) ++ [⟨2, 4 + s.size, 0, []⟩])) = _
  rw [itq_step, if_pos rfl, itq_step, if_neg (by decide), if_pos rfl, k1]
  rfl

end Cls

end Go.Proofs.YtbnnobeahliffaaGreatDoor

set_option linter.unusedVariables false
namespace Go.Proofs.YtbnnobeahliffaaGreatDoor
open Go.RowKit
namespace Cls

theorem some_if {p : Prop} [Decidable p] {L : List Nat} (h : p) : (if p then some L else none : Option (List Nat)).isSome = true := by rw [if_pos h]; rfl

theorem none_if {p : Prop} [Decidable p] {L : List Nat} (h : ¬ p) : (if p then some L else none : Option (List Nat)).isSome = false := by rw [if_neg h]; rfl

set_option maxRecDepth 100000 in
set_option maxHeartbeats 4000000 in
theorem right13_any (x : Tv) (w : World) (hx : x.ok w) :
    Calls Tryz.prog 83 #[x.val] w fun e w' => e = .returned (.bool (prI x.i).isSome) ∧ Below w.heap.size w w' := by
  obtain ⟨⟨xk, xa, xn, xp⟩, xo, xc⟩ := x
  unfold Tv.ok at hx
  simp only at hx
  unfold Tv.val
  simp only
  obtain ⟨w1, e1⟩ : ∃ w1, w1 = w.alloc (.cells #[.int .i64 xk, .int .i64 xa, .int .i64 xn, .slice xo xp.length xc] 76) := ⟨_, rfl⟩
  have q1 : K4 w1 w.heap.size (.int .i64 xk) (.int .i64 xa) (.int .i64 xn) (.slice xo xp.length xc) := by rw [e1]; exact k4_new _ _ _ _ _ _
  have b1 : Below w.heap.size w w1 := by rw [e1]; exact al_below _ _
  have HX : Hid (Lf w1 xo xp.length (at' xp)) := hx.grow b1
  have B1 : Hid (Below w.heap.size w w1) := b1
  have E1 : Hid _ := e1
  clear e1 b1 hx
  by_cases hout : xk < 1 ∨ 8 < xk
  · have HF : Hid ((prI ⟨xk, xa, xn, xp⟩).isSome = false) := by show _ = _; rw [prI_out hout]; rfl
    have g1 : (xk == 1) = false := beq_eq_false_iff_ne.2 (by omega)
    have g2 : (xk == 2) = false := beq_eq_false_iff_ne.2 (by omega)
    have g3 : (xk == 3) = false := beq_eq_false_iff_ne.2 (by omega)
    have g4 : (xk == 4) = false := beq_eq_false_iff_ne.2 (by omega)
    have g5 : (xk == 5) = false := beq_eq_false_iff_ne.2 (by omega)
    have g6 : (xk == 6) = false := beq_eq_false_iff_ne.2 (by omega)
    have g7 : (xk == 7) = false := beq_eq_false_iff_ne.2 (by omega)
    have g8 : (xk == 8) = false := beq_eq_false_iff_ne.2 (by omega)
    obtain ⟨a0, a1, a2, a3⟩ := q1
    clear hout
    go_enter Tryz.func83, Tryz.ntmps83
    go_wp2_with (first | rw [← E1.out])
    go_ret
    exact ⟨by rw [HF.out]; rfl, B1.out⟩
  · have hk : xk = 1 ∨ xk = 2 ∨ xk = 3 ∨ xk = 4 ∨ xk = 5 ∨ xk = 6 ∨ xk = 7 ∨ xk = 8 := by omega
    clear hout
    obtain ⟨l, hl⟩ : ∃ l, xp.length = l := ⟨_, rfl⟩
    have HL : Hid (xp.length = l) := hl
    rcases hk with rfl | rfl | rfl | rfl | rfl | rfl | rfl | rfl
    · by_cases hn : xn = 0 ∧ xp.length = 0
      · have HF : Hid ((prI ⟨1, xa, xn, xp⟩).isSome = true) := by show _ = _; rw [prI_sign (show (1 : Int) ≤ 1 by decide) (show (1 : Int) ≤ 5 by decide)]; exact some_if hn
        obtain ⟨rfl, hp⟩ := hn
        rw [hp] at q1 E1 HX ⊢
        obtain ⟨a0, a1, a2, a3⟩ := q1
        clear hl HL hp
        go_enter Tryz.func83, Tryz.ntmps83
        go_wp2_with (first | rw [← E1.out])
        go_ret
        exact ⟨by rw [HF.out]; rfl, B1.out⟩
      · have HF : Hid ((prI ⟨1, xa, xn, xp⟩).isSome = false) := by show _ = _; rw [prI_sign (show (1 : Int) ≤ 1 by decide) (show (1 : Int) ≤ 5 by decide)]; exact none_if hn
        rw [hl] at q1 E1 HX hn ⊢
        obtain ⟨a0, a1, a2, a3⟩ := q1
        by_cases h0 : xn = 0
        · have hl0 : ((l : Int) == 0) = false := beq_eq_false_iff_ne.2 (by omega)
          have h0I : (xn == 0) = true := beq_iff_eq.2 h0
          clear hn h0
          go_enter Tryz.func83, Tryz.ntmps83
          go_wp2_with (first | rw [← E1.out])
          go_ret
          exact ⟨by rw [HF.out]; rfl, B1.out⟩
        · have h0I : (xn == 0) = false := beq_eq_false_iff_ne.2 h0
          clear hn h0
          go_enter Tryz.func83, Tryz.ntmps83
          go_wp2_with (first | rw [← E1.out])
          go_ret
          exact ⟨by rw [HF.out]; rfl, B1.out⟩
    · by_cases hn : xn = 0 ∧ xp.length = 0
      · have HF : Hid ((prI ⟨2, xa, xn, xp⟩).isSome = true) := by show _ = _; rw [prI_sign (show (1 : Int) ≤ 2 by decide) (show (2 : Int) ≤ 5 by decide)]; exact some_if hn
        obtain ⟨rfl, hp⟩ := hn
        rw [hp] at q1 E1 HX ⊢
        obtain ⟨a0, a1, a2, a3⟩ := q1
        clear hl HL hp
        go_enter Tryz.func83, Tryz.ntmps83
        go_wp2_with (first | rw [← E1.out])
        go_ret
        exact ⟨by rw [HF.out]; rfl, B1.out⟩
      · have HF : Hid ((prI ⟨2, xa, xn, xp⟩).isSome = false) := by show _ = _; rw [prI_sign (show (1 : Int) ≤ 2 by decide) (show (2 : Int) ≤ 5 by decide)]; exact none_if hn
        rw [hl] at q1 E1 HX hn ⊢
        obtain ⟨a0, a1, a2, a3⟩ := q1
        by_cases h0 : xn = 0
        · have hl0 : ((l : Int) == 0) = false := beq_eq_false_iff_ne.2 (by omega)
          have h0I : (xn == 0) = true := beq_iff_eq.2 h0
          clear hn h0
          go_enter Tryz.func83, Tryz.ntmps83
          go_wp2_with (first | rw [← E1.out])
          go_ret
          exact ⟨by rw [HF.out]; rfl, B1.out⟩
        · have h0I : (xn == 0) = false := beq_eq_false_iff_ne.2 h0
          clear hn h0
          go_enter Tryz.func83, Tryz.ntmps83
          go_wp2_with (first | rw [← E1.out])
          go_ret
          exact ⟨by rw [HF.out]; rfl, B1.out⟩
    · by_cases hn : xn = 0 ∧ xp.length = 0
      · have HF : Hid ((prI ⟨3, xa, xn, xp⟩).isSome = true) := by show _ = _; rw [prI_sign (show (1 : Int) ≤ 3 by decide) (show (3 : Int) ≤ 5 by decide)]; exact some_if hn
        obtain ⟨rfl, hp⟩ := hn
        rw [hp] at q1 E1 HX ⊢
        obtain ⟨a0, a1, a2, a3⟩ := q1
        clear hl HL hp
        go_enter Tryz.func83, Tryz.ntmps83
        go_wp2_with (first | rw [← E1.out])
        go_ret
        exact ⟨by rw [HF.out]; rfl, B1.out⟩
      · have HF : Hid ((prI ⟨3, xa, xn, xp⟩).isSome = false) := by show _ = _; rw [prI_sign (show (1 : Int) ≤ 3 by decide) (show (3 : Int) ≤ 5 by decide)]; exact none_if hn
        rw [hl] at q1 E1 HX hn ⊢
        obtain ⟨a0, a1, a2, a3⟩ := q1
        by_cases h0 : xn = 0
        · have hl0 : ((l : Int) == 0) = false := beq_eq_false_iff_ne.2 (by omega)
          have h0I : (xn == 0) = true := beq_iff_eq.2 h0
          clear hn h0
          go_enter Tryz.func83, Tryz.ntmps83
          go_wp2_with (first | rw [← E1.out])
          go_ret
          exact ⟨by rw [HF.out]; rfl, B1.out⟩
        · have h0I : (xn == 0) = false := beq_eq_false_iff_ne.2 h0
          clear hn h0
          go_enter Tryz.func83, Tryz.ntmps83
          go_wp2_with (first | rw [← E1.out])
          go_ret
          exact ⟨by rw [HF.out]; rfl, B1.out⟩
    · by_cases hn : xn = 0 ∧ xp.length = 0
      · have HF : Hid ((prI ⟨4, xa, xn, xp⟩).isSome = true) := by show _ = _; rw [prI_sign (show (1 : Int) ≤ 4 by decide) (show (4 : Int) ≤ 5 by decide)]; exact some_if hn
        obtain ⟨rfl, hp⟩ := hn
        rw [hp] at q1 E1 HX ⊢
        obtain ⟨a0, a1, a2, a3⟩ := q1
        clear hl HL hp
        go_enter Tryz.func83, Tryz.ntmps83
        go_wp2_with (first | rw [← E1.out])
        go_ret
        exact ⟨by rw [HF.out]; rfl, B1.out⟩
      · have HF : Hid ((prI ⟨4, xa, xn, xp⟩).isSome = false) := by show _ = _; rw [prI_sign (show (1 : Int) ≤ 4 by decide) (show (4 : Int) ≤ 5 by decide)]; exact none_if hn
        rw [hl] at q1 E1 HX hn ⊢
        obtain ⟨a0, a1, a2, a3⟩ := q1
        by_cases h0 : xn = 0
        · have hl0 : ((l : Int) == 0) = false := beq_eq_false_iff_ne.2 (by omega)
          have h0I : (xn == 0) = true := beq_iff_eq.2 h0
          clear hn h0
          go_enter Tryz.func83, Tryz.ntmps83
          go_wp2_with (first | rw [← E1.out])
          go_ret
          exact ⟨by rw [HF.out]; rfl, B1.out⟩
        · have h0I : (xn == 0) = false := beq_eq_false_iff_ne.2 h0
          clear hn h0
          go_enter Tryz.func83, Tryz.ntmps83
          go_wp2_with (first | rw [← E1.out])
          go_ret
          exact ⟨by rw [HF.out]; rfl, B1.out⟩
    · by_cases hn : xn = 0 ∧ xp.length = 0
      · have HF : Hid ((prI ⟨5, xa, xn, xp⟩).isSome = true) := by show _ = _; rw [prI_sign (show (1 : Int) ≤ 5 by decide) (show (5 : Int) ≤ 5 by decide)]; exact some_if hn
        obtain ⟨rfl, hp⟩ := hn
        rw [hp] at q1 E1 HX ⊢
        obtain ⟨a0, a1, a2, a3⟩ := q1
        clear hl HL hp
        go_enter Tryz.func83, Tryz.ntmps83
        go_wp2_with (first | rw [← E1.out])
        go_ret
        exact ⟨by rw [HF.out]; rfl, B1.out⟩
      · have HF : Hid ((prI ⟨5, xa, xn, xp⟩).isSome = false) := by show _ = _; rw [prI_sign (show (1 : Int) ≤ 5 by decide) (show (5 : Int) ≤ 5 by decide)]; exact none_if hn
        rw [hl] at q1 E1 HX hn ⊢
        obtain ⟨a0, a1, a2, a3⟩ := q1
        by_cases h0 : xn = 0
        · have hl0 : ((l : Int) == 0) = false := beq_eq_false_iff_ne.2 (by omega)
          have h0I : (xn == 0) = true := beq_iff_eq.2 h0
          clear hn h0
          go_enter Tryz.func83, Tryz.ntmps83
          go_wp2_with (first | rw [← E1.out])
          go_ret
          exact ⟨by rw [HF.out]; rfl, B1.out⟩
        · have h0I : (xn == 0) = false := beq_eq_false_iff_ne.2 h0
          clear hn h0
          go_enter Tryz.func83, Tryz.ntmps83
          go_wp2_with (first | rw [← E1.out])
          go_ret
          exact ⟨by rw [HF.out]; rfl, B1.out⟩
    · by_cases hn : 0 ≤ xn ∧ xn ≤ 1000000 ∧ xp.length = 0
      · have HF : Hid ((prI ⟨6, xa, xn, xp⟩).isSome = true) := by show _ = _; rw [prI_num (.inl rfl)]; exact some_if hn
        obtain ⟨h1, h2, hp⟩ := hn
        rw [hp] at q1 E1 HX ⊢
        obtain ⟨a0, a1, a2, a3⟩ := q1
        clear hl HL hp
        go_enter Tryz.func83, Tryz.ntmps83
        go_wp2_with (first | rw [← E1.out])
        go_ret
        exact ⟨by rw [HF.out]; rfl, B1.out⟩
      · have HF : Hid ((prI ⟨6, xa, xn, xp⟩).isSome = false) := by show _ = _; rw [prI_num (.inl rfl)]; exact none_if hn
        rw [hl] at q1 E1 HX hn ⊢
        obtain ⟨a0, a1, a2, a3⟩ := q1
        by_cases h1 : 0 ≤ xn
        · by_cases h2 : xn ≤ 1000000
          · have hl0 : ((l : Int) == 0) = false := beq_eq_false_iff_ne.2 (by omega)
            clear hn
            go_enter Tryz.func83, Tryz.ntmps83
            go_wp2_with (first | rw [← E1.out])
            go_ret
            exact ⟨by rw [HF.out]; rfl, B1.out⟩
          · clear hn
            go_enter Tryz.func83, Tryz.ntmps83
            go_wp2_with (first | rw [← E1.out])
            go_ret
            exact ⟨by rw [HF.out]; rfl, B1.out⟩
        · clear hn
          go_enter Tryz.func83, Tryz.ntmps83
          go_wp2_with (first | rw [← E1.out])
          go_ret
          exact ⟨by rw [HF.out]; rfl, B1.out⟩
    · by_cases hn : 0 ≤ xn ∧ xn ≤ 1000000 ∧ xp.length = 0
      · have HF : Hid ((prI ⟨7, xa, xn, xp⟩).isSome = true) := by show _ = _; rw [prI_num (.inr rfl)]; exact some_if hn
        obtain ⟨h1, h2, hp⟩ := hn
        rw [hp] at q1 E1 HX ⊢
        obtain ⟨a0, a1, a2, a3⟩ := q1
        clear hl HL hp
        go_enter Tryz.func83, Tryz.ntmps83
        go_wp2_with (first | rw [← E1.out])
        go_ret
        exact ⟨by rw [HF.out]; rfl, B1.out⟩
      · have HF : Hid ((prI ⟨7, xa, xn, xp⟩).isSome = false) := by show _ = _; rw [prI_num (.inr rfl)]; exact none_if hn
        rw [hl] at q1 E1 HX hn ⊢
        obtain ⟨a0, a1, a2, a3⟩ := q1
        by_cases h1 : 0 ≤ xn
        · by_cases h2 : xn ≤ 1000000
          · have hl0 : ((l : Int) == 0) = false := beq_eq_false_iff_ne.2 (by omega)
            clear hn
            go_enter Tryz.func83, Tryz.ntmps83
            go_wp2_with (first | rw [← E1.out])
            go_ret
            exact ⟨by rw [HF.out]; rfl, B1.out⟩
          · clear hn
            go_enter Tryz.func83, Tryz.ntmps83
            go_wp2_with (first | rw [← E1.out])
            go_ret
            exact ⟨by rw [HF.out]; rfl, B1.out⟩
        · clear hn
          go_enter Tryz.func83, Tryz.ntmps83
          go_wp2_with (first | rw [← E1.out])
          go_ret
          exact ⟨by rw [HF.out]; rfl, B1.out⟩
    · have HF : Hid ((prI ⟨8, xa, xn, xp⟩).isSome = (decide (xn = 0) && rgt (at' xp) xp.length 0)) := by
        show _ = _
        rw [prI_pat rfl]
        by_cases h0 : xn = 0
        · cases hr : rgt (at' xp) xp.length 0 with
          | true => rw [some_if ⟨h0, rfl⟩, decide_eq_true h0]; rfl
          | false => rw [none_if (by rintro ⟨_, h⟩; cases h), decide_eq_true h0]; rfl
        · rw [none_if (fun h => h0 h.1), decide_eq_false h0]; rfl
      obtain ⟨a0, a1, a2, a3⟩ := q1
      by_cases h0 : xn = 0
      · subst h0
        have CR : Hid _ := right_any (at' xp) xp.length xc xo 0 w1 HX.out
        have HF2 : Hid ((prI ⟨8, xa, 0, xp⟩).isSome = rgt (at' xp) xp.length 0) := by show _ = _; rw [HF.out]; rfl
        rw [hl] at CR HF2 a3 E1 ⊢
        generalize rgt (at' xp) l 0 = r at *
        go_enter Tryz.func83, Tryz.ntmps83
        go_wp2_with (first | rw [← E1.out])
        refine Calls.mono CR.out ?_; rintro e w2 ⟨rfl, b2⟩
        have B2 : Hid (Below w.heap.size w w2) := B1.out.trans (b2.mono B1.out.size)
        clear b2
        go_wp2_with fail
        go_ret
        exact ⟨by rw [HF2.out]; rfl, B2.out⟩
      · have h0I : (xn == 0) = false := beq_eq_false_iff_ne.2 h0
        have HF2 : Hid ((prI ⟨8, xa, xn, xp⟩).isSome = false) := by show _ = _; rw [HF.out, decide_eq_false h0]; rfl
        rw [hl] at a3 E1 ⊢
        clear h0 HF
        go_enter Tryz.func83, Tryz.ntmps83
        go_wp2_with (first | rw [← E1.out])
        go_ret
        exact ⟨by rw [HF2.out]; rfl, B1.out⟩

/-- A token in a box on the way; the tables. -/
structure Pw (w wk : World) (xk xa xn : Int) (xo : Option Addr) (xp : List (Nat → Bool)) (xc : Nat) : Prop where
  bel : Below w.heap.size w wk
  k : K4 wk w.heap.size (.int .i64 xk) (.int .i64 xa) (.int .i64 xn) (.slice xo xp.length xc)
  lf : Lf wk xo xp.length (at' xp)
  tb : TabB wk
  tx : TabX wk

theorem Pw.grow {w wk v : World} {xk xa xn : Int} {xo : Option Addr} {xp : List (Nat → Bool)} {xc : Nat} (h : Pw w wk xk xa xn xo xp xc) (b : Below wk.heap.size wk v) : Pw w v xk xa xn xo xp xc :=
  ⟨h.bel.trans (b.mono h.bel.size), h.k.keep b, h.lf.grow b, h.tb.grow b, h.tx.grow b⟩

theorem sg_cut (k : Nat) (h1 : 1 ≤ k) (h8 : k ≤ 8) : (⟨#[40, 41, 38, 124, 33, 62, 126, 34]⟩ : ByteArray).extract (k - 1) k = tbs [sg8 k] := by
  have h := knT_cut (k - 1) (by omega)
  rw [show k - 1 + 1 = k by omega] at h
  exact h

set_option maxRecDepth 100000 in
set_option maxHeartbeats 4000000 in
theorem print_any (x : Tv) (w : World) (hx : x.ok w) (hT : TabB w) (hX : TabX w) :
    Calls Tryz.prog 72 #[x.val] w fun e w' => Rdx (prI x.i) e ∧ Below w.heap.size w w' := by
  obtain ⟨⟨xk, xa, xn, xp⟩, xo, xc⟩ := x
  have CR : Hid _ := fun (v : World) (hv : Below w.heap.size w v) => right13_any ⟨⟨xk, xa, xn, xp⟩, xo, xc⟩ v (hx.grow hv)
  unfold Tv.ok at hx
  simp only at hx
  unfold Tv.val at CR ⊢
  simp only at CR ⊢
  obtain ⟨w1, e1⟩ : ∃ w1, w1 = w.alloc (.cells #[.int .i64 xk, .int .i64 xa, .int .i64 xn, .slice xo xp.length xc] 76) := ⟨_, rfl⟩
  have b1 : Below w.heap.size w w1 := by rw [e1]; exact al_below _ _
  have q1 : K4 w1 w.heap.size (.int .i64 xk) (.int .i64 xa) (.int .i64 xn) (.slice xo xp.length xc) := by rw [e1]; exact k4_new _ _ _ _ _ _
  have D1 : Hid (Pw w w1 xk xa xn xo xp xc) := ⟨b1, q1, hx.grow b1, hT.grow b1, hX.grow b1⟩
  have E1 : Hid _ := e1
  have C1 : Hid _ := CR.out w1 b1
  clear e1 b1 q1 hx hT hX CR
  obtain ⟨a0, a1, a2, a3⟩ := D1.out.k
  cases hp : prI ⟨xk, xa, xn, xp⟩ with
  | none =>
    rw [hp] at C1
    go_enter Tryz.func72, Tryz.ntmps72
    go_wp2_with (first | rw [← E1.out])
    refine Calls.mono C1.out ?_; rintro e w2 ⟨rfl, b2⟩
    have D2 : Hid (Pw w w2 xk xa xn xo xp xc) := D1.out.grow b2
    clear b2
    go_wp2_with fail
    refine bodyPost_ret (results_tmp2 rfl _ _ _) rfl ?_
    exact ⟨rfl, D2.out.bel⟩
  | some T0 =>
    rw [hp] at C1
    have hk1 : 1 ≤ xk := by
      rcases Int.lt_or_le xk 1 with h | h
      · rw [prI_out (.inl h)] at hp; cases hp
      · exact h
    have hk8 : xk ≤ 8 := by
      rcases Int.lt_or_le 8 xk with h | h
      · rw [prI_out (.inr h)] at hp; cases hp
      · exact h
    obtain ⟨k, rfl⟩ : ∃ k : Nat, xk = (k : Int) := ⟨xk.toNat, by omega⟩
    have hcut := sg_cut k (by omega) (by omega)
    have hn1 : ((k : Int) - 1).toNat = k - 1 := by omega
    have hn2 : ((k : Int)).toNat = k := by omega
    have hwk : IntKind.i64.wrap ((k : Int) - 1) = (k : Int) - 1 := by rw [IntKind.wrap_i64]; omega
    have hb1 : (0 : Int) ≤ (k : Int) - 1 := by omega
    have hb2 : (k : Int) - 1 ≤ (k : Int) := by omega
    have hb3 : (k : Int) ≤ 8 := by omega
    by_cases h67 : k = 6 ∨ k = 7
    · rw [prI_num (show (k : Int) = 6 ∨ (k : Int) = 7 by omega)] at hp
      simp only [Int.toNat_natCast] at hp
      by_cases hc : 0 ≤ xn ∧ xn ≤ 1000000 ∧ xp.length = 0
      · rw [if_pos hc] at hp
        obtain ⟨n, rfl⟩ : ∃ n : Nat, xn = (n : Int) := ⟨xn.toNat, by omega⟩
        have HT0 : Hid (T0 = [sg8 k] ++ dgs n) := by
          show _ = _
          have := Option.some.inj hp
          rw [← this]
          simp
        have hd7 := dgs_le7 (show n ≤ 1000000 by omega)
        have AD := add_tbs [sg8 k] (dgs n) (by simp; omega)
        have CI : Hid _ := fun (v : World) (hv : TabX v) => itoa_any n (by omega) v hv
        have HFT : Hid (tbs T0 = tbs ([sg8 k] ++ dgs n)) := by show _ = _; rw [HT0.out]
        have HLE : Hid _ := hcut
        have hks : (((k : Int) == 6) = true) ∨ (((k : Int) == 6) = false ∧ ((k : Int) == 7) = true) := by
          rcases h67 with h | h
          · exact .inl (beq_iff_eq.2 (by omega))
          · exact .inr ⟨beq_eq_false_iff_ne.2 (by omega), beq_iff_eq.2 (by omega)⟩
        generalize tbs ([sg8 k] ++ dgs n) = t3 at *
        generalize tbs (dgs n) = t2 at *
        generalize tbs [sg8 k] = t1 at *
        clear hp HT0 hc h67
        rcases hks with h6I | ⟨h6I, h7I⟩
        all_goals
          go_enter Tryz.func72, Tryz.ntmps72
          go_wp2_with (first | rw [← E1.out])
          refine Calls.mono C1.out ?_; rintro e w2 ⟨rfl, b2⟩
          have D2 : Hid (Pw w w2 (k : Int) xa (n : Int) xo xp xc) := D1.out.grow b2
          clear b2 a0 a1 a2 a3
          obtain ⟨a0, a1, a2, a3⟩ := D2.out.k
          go_wp2_with (first | rw [hn1] | rw [hn2] | rw [hcut])
          refine Calls.mono (CI.out w2 D2.out.tx) ?_; rintro e w3 ⟨rfl, b3⟩
          have D3 : Hid (Pw w w3 (k : Int) xa (n : Int) xo xp xc) := D2.out.grow b3
          clear b3
          go_wp2_with fail
          refine bodyPost_ret (results_tmp2 rfl _ _ _) rfl ?_
          exact ⟨by unfold Rdx; show _ = Ending.returned (.tuple #[.string (tbs T0), .bool true]); rw [HFT.out]; rfl, D3.out.bel⟩
      · rw [if_neg hc] at hp
        cases hp
    · have h6I : ((k : Int) == 6) = false := beq_eq_false_iff_ne.2 (by omega)
      have h7I : ((k : Int) == 7) = false := beq_eq_false_iff_ne.2 (by omega)
      by_cases h8 : k = 8
      · rw [prI_pat (show (k : Int) = 8 by omega)] at hp
        simp only at hp
        have h8I : ((k : Int) == 8) = true := beq_iff_eq.2 (by omega)
        by_cases hc : xn = 0 ∧ rgt (at' xp) xp.length 0 = true
        · rw [if_pos hc] at hp
          have hlen := (rgt_len hc.2)
          have HT0 : Hid (T0 = (34 :: eTx xp) ++ [34]) := by
            show _ = _
            have := Option.some.inj hp
            rw [← this]
            simp
          have HSG : Hid (tbs [sg8 k] = tbs (34 :: eTx (xp.take 0))) := by show _ = _; rw [h8]; rfl
          obtain ⟨n, hn⟩ : ∃ n, xp.length = n := ⟨_, rfl⟩
          have HN : Hid (xp.length = n) := hn
          have hn64 : n ≤ 64 := by omega
          clear hp hc h8 h67 hlen
          obtain ⟨t1, ht1⟩ : ∃ t1, tbs [sg8 k] = t1 := ⟨_, rfl⟩
          have HT1 : Hid _ := ht1
          rw [ht1] at hcut
          clear ht1
          rw [hn] at a3 E1 C1 ⊢
          clear hn
          go_enter Tryz.func72, Tryz.ntmps72
          go_wp2_with (first | rw [← E1.out])
          refine Calls.mono C1.out ?_; rintro e w2 ⟨rfl, b2⟩
          have D2 : Hid (Pw w w2 (k : Int) xa xn xo xp xc) := D1.out.grow b2
          clear b2 a0 a1 a2 a3
          obtain ⟨a0, a1, a2, a3⟩ := D2.out.k
          rw [HN.out] at a3
          go_wp2_with (first | rw [hn1] | rw [hn2] | rw [hcut])
          go_loopw [4, 33] (fun vt vk wr => Pw w wr k xa xn xo xp xc ∧ ∃ j : Nat, j ≤ n ∧ vk = .int .i64 (j : Int) ∧ vt = .string (tbs (34 :: eTx (xp.take j)))) (fun _ vk _ => n - (intOf vk).toNat)
          case atStart => exact ⟨D2.out, 0, Nat.zero_le _, rfl, by rw [← HSG.out, HT1.out]⟩
          case round =>
            obtain ⟨hD, j, hj, rfl, rfl⟩ := hrel
            have DR : Hid (Pw w wr k xa xn xo xp xc) := hD
            have hle := eTx_le (xp.take j)
            rw [List.length_take] at hle
            clear hD a0 a1 a2 a3
            by_cases hjn : j < n
            · have hjI : (j : Int) < (n : Int) := by omega
              have hjL : j < xp.length := by rw [HN.out]; exact hjn
              obtain ⟨g, o, rfl, _, hC⟩ := DR.out.lf.lies (by omega)
              obtain ⟨c0, c1, c2, c3⟩ := hC.four hjL
              obtain ⟨f, hf⟩ : ∃ f, at' xp j = f := ⟨_, rfl⟩
              rw [hf] at c0 c1 c2 c3
              have hget : xp[j] = f := by rw [← hf, at_get hjL]
              have CE : Hid _ := fun (v : World) (hv : TabB v) => elementS_any f v hv
              have h24 := elt_le f
              have AD := add_tbs (34 :: eTx (xp.take j)) ((elt f).getD []) (by simp; omega)
              have HT3 : Hid (tbs ((34 :: eTx (xp.take j)) ++ (elt f).getD []) = tbs (34 :: eTx (xp.take (j + 1)))) := by show _ = _; rw [eTx_take xp j hjL, hget]; rfl
              unfold Rdx at CE
              generalize tbs ((34 :: eTx (xp.take j)) ++ (elt f).getD []) = t3 at *
              generalize tbs (34 :: eTx (xp.take j)) = t at *
              generalize tbs ((elt f).getD []) = u at *
              clear hC hget hf
              obtain ⟨w5, e5⟩ : ∃ w5, w5 = wr.alloc (.cells #[.int .u64 ((wd (f) 0 : Nat) : Int), .int .u64 ((wd (f) 1 : Nat) : Int), .int .u64 ((wd (f) 2 : Nat) : Int), .int .u64 ((wd (f) 3 : Nat) : Int)] 67) := ⟨_, rfl⟩
              have b5 : Below wr.heap.size wr w5 := by rw [e5]; exact al_below _ _
              have D5 : Hid (Pw w w5 k xa xn (some ⟨g, o, none⟩) xp xc) := DR.out.grow b5
              have q5 : Kc w5 wr.heap.size f := by rw [e5]; exact k4_new _ _ _ _ _ _
              have E5 : Hid _ := e5
              obtain ⟨d0, d1, d2, d3⟩ := q5
              clear e5 b5 DR
              go_wp2_with (first | rw [← E5.out])
              refine Calls.mono (CE.out w5 D5.out.tb) ?_; rintro e w6 ⟨rfl, b6⟩
              have D6 : Hid (Pw w w6 k xa xn (some ⟨g, o, none⟩) xp xc) := D5.out.grow b6
              clear b6 d0 d1 d2 d3 E5 c0 c1 c2 c3 D5
              go_wp2_with fail
              go_roundw
              case rel => exact ⟨D6.out, j + 1, by omega, by go_num, by rw [← HT3.out]⟩
              case measure => simp [intOf]; omega
            · obtain rfl : j = n := by omega
              have e : xp.take j = xp := by rw [List.take_of_length_le (by rw [HN.out]; exact Nat.le_refl _)]
              rw [e] at hle ⊢
              have hl9 := eTx_le xp
              rw [HN.out] at hl9
              have AD := add_tbs (34 :: eTx xp) [34] (by simp; omega)
              rw [show tbs [34] = ⟨#[34]⟩ from rfl] at AD
              have HFT : Hid (tbs T0 = tbs ((34 :: eTx xp) ++ [34])) := by show _ = _; rw [HT0.out]
              generalize tbs ((34 :: eTx xp) ++ [34]) = t2 at *
              generalize tbs (34 :: eTx xp) = t at *
              clear e
              go_wp2_with fail
              refine bodyPost_ret (results_tmp2 rfl _ _ _) rfl ?_
              exact ⟨by unfold Rdx; show _ = Ending.returned (.tuple #[.string (tbs T0), .bool true]); rw [HFT.out]; rfl, DR.out.bel⟩
        · rw [if_neg hc] at hp
          cases hp
      · have h8I : ((k : Int) == 8) = false := beq_eq_false_iff_ne.2 (by omega)
        rw [prI_sign (show 1 ≤ (k : Int) by omega) (show (k : Int) ≤ 5 by omega)] at hp
        simp only [Int.toNat_natCast] at hp
        by_cases hc : xn = 0 ∧ xp.length = 0
        · rw [if_pos hc] at hp
          have HT0 : Hid (T0 = [sg8 k]) := by
            show _ = _
            have := Option.some.inj hp
            first | (rw [← this]; done) | (rw [← this]; simp)
          have HFT : Hid (tbs T0 = tbs [sg8 k]) := by show _ = _; rw [HT0.out]
          generalize tbs [sg8 k] = t1 at *
          clear hp HT0 hc h8 h67
          go_enter Tryz.func72, Tryz.ntmps72
          go_wp2_with (first | rw [← E1.out])
          refine Calls.mono C1.out ?_; rintro e w2 ⟨rfl, b2⟩
          have D2 : Hid (Pw w w2 (k : Int) xa xn xo xp xc) := D1.out.grow b2
          clear b2 a0 a1 a2 a3
          obtain ⟨a0, a1, a2, a3⟩ := D2.out.k
          go_wp2_with (first | rw [hn1] | rw [hn2] | rw [hcut])
          refine bodyPost_ret (results_tmp2 rfl _ _ _) rfl ?_
          exact ⟨by unfold Rdx; show _ = Ending.returned (.tuple #[.string (tbs T0), .bool true]); rw [HFT.out]; rfl, D2.out.bel⟩
        · rw [if_neg hc] at hp
          cases hp

end Cls

end Go.Proofs.YtbnnobeahliffaaGreatDoor
