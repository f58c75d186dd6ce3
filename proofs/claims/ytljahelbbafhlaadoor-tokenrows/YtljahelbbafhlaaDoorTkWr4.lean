/- Contract of beagleref13.Element: a class's text. (Written by mktk11.py.) -/
import Derived.Test.YtljahelbbafhlaaDoorTkWr3
import Derived.Test.YtljahelbbafhlaaDoorClsA
import Derived.Test.YtljahelbbafhlaaDoorClsB
set_option linter.unusedVariables false
namespace Go.Proofs.YtljahelbbafhlaaDoor
open Go.RowKit
namespace Cls

/-- A class in a box on the way, the tables aside. -/
structure Bv (w wk : World) (f : Nat → Bool) : Prop where
  bel : Below w.heap.size w wk
  lt : w.heap.size < wk.heap.size
  fam : Fam wk w.heap.size 0 4 (wi f)

theorem Bv.grow {w wk v : World} {f : Nat → Bool} (h : Bv w wk f) (b : Below wk.heap.size wk v) : Bv w v f :=
  ⟨h.bel.trans (b.mono h.bel.size), Nat.lt_of_lt_of_le h.lt b.size, h.fam.below b h.lt⟩

theorem bv_new (w : World) (f : Nat → Bool) : Bv w (w.alloc (.cells #[.int .u64 ((wd (f) 0 : Nat) : Int), .int .u64 ((wd (f) 1 : Nat) : Int), .int .u64 ((wd (f) 2 : Nat) : Int), .int .u64 ((wd (f) 3 : Nat) : Int)] 35)) f := by
  obtain ⟨v, hb⟩ := box w f
  have e := hb.eq
  subst e
  exact ⟨hb.bel, by have := hb.size; omega, hb.fam⟩

theorem run1_one (a : Nat) : run1 (a, a) = wrt a aptC := by
  unfold run1
  simp

theorem run1_dash {a b : Nat} (h : a + 1 < b) : run1 (a, b) = (wrt a aptC ++ [45]) ++ wrt b aptC := by
  unfold run1
  simp only
  rw [if_pos h, if_pos (by omega)]
  simp

theorem run1_two {a b : Nat} (h : a < b) (h1 : ¬ a + 1 < b) : run1 (a, b) = wrt a aptC ++ wrt b aptC := by
  unfold run1
  simp only
  rw [if_neg h1, if_pos h]
  simp

set_option maxRecDepth 100000 in
set_option maxHeartbeats 4000000 in
theorem element13S_any (f : Nat → Bool) (w : World) :
    Calls Tryd.prog 15 #[.agg #[.int .u64 ((wd (f) 0 : Nat) : Int), .int .u64 ((wd (f) 1 : Nat) : Int), .int .u64 ((wd (f) 2 : Nat) : Int), .int .u64 ((wd (f) 3 : Nat) : Int)]] w fun e w' => Rdx (elt f) e ∧ Below w.heap.size w w' := by
  obtain ⟨w1, e1⟩ : ∃ w1, w1 = w.alloc (.cells #[.int .u64 ((wd (f) 0 : Nat) : Int), .int .u64 ((wd (f) 1 : Nat) : Int), .int .u64 ((wd (f) 2 : Nat) : Int), .int .u64 ((wd (f) 3 : Nat) : Int)] 35) := ⟨_, rfl⟩
  have hb := bv_new w f
  rw [← e1] at hb
  have E1 : Hid _ := e1
  have DW : Hid (Bv w w1 f) := hb
  obtain ⟨a0, a1, a2, a3⟩ := c4 hb.fam
  have CZ : Hid _ := fun (v : World) => refSize_any f v
  clear e1 hb
  by_cases h0 : cb f 0 256 = 0
  · have HF : Hid _ := elt_zero h0
    rw [h0] at CZ
    go_enter Tryd.func15, Tryd.ntmps15
    go_wp2_with (first | rw [← E1.out])
    refine Calls.mono (CZ.out w1) ?_; rintro e w2 ⟨rfl, b2⟩
    have D2 : Hid (Bv w w2 f) := DW.out.grow b2
    clear b2
    go_wp2_with fail
    refine bodyPost_ret (results_tmp2 rfl _ _ _) rfl ?_
    exact ⟨by unfold Rdx; rw [HF.out]; rfl, D2.out.bel⟩
  · by_cases h256 : cb f 0 256 = 256
    · have HF : Hid (elt f = some [63]) := by show _ = _; unfold elt; rw [if_neg h0, if_pos h256]
      rw [h256] at CZ
      go_enter Tryd.func15, Tryd.ntmps15
      go_wp2_with (first | rw [← E1.out])
      refine Calls.mono (CZ.out w1) ?_; rintro e w2 ⟨rfl, b2⟩
      have D2 : Hid (Bv w w2 f) := DW.out.grow b2
      clear b2 a0 a1 a2 a3
      obtain ⟨a0, a1, a2, a3⟩ := c4 D2.out.fam
      go_wp2_with fail
      refine Calls.mono (CZ.out w2) ?_; rintro e w3 ⟨rfl, b3⟩
      have D3 : Hid (Bv w w3 f) := D2.out.grow b3
      clear b3
      go_wp2_with fail
      refine bodyPost_ret (results_tmp2 rfl _ _ _) rfl ?_
      exact ⟨by unfold Rdx; rw [HF.out]; rfl, D3.out.bel⟩
    · have hZ0 : (((cb f 0 256 : Nat) : Int) == 0) = false := beq_eq_false_iff_ne.2 (by omega)
      have hZ1 : (((cb f 0 256 : Nat) : Int) == 256) = false := beq_eq_false_iff_ne.2 (by omega)
      have CS : Hid _ := fun (v : World) => refSingle_any f v
      have H0 : Hid (cb f 0 256 ≠ 0 ∧ cb f 0 256 ≠ 256) := ⟨h0, h256⟩
      clear h0 h256
      generalize hcc : cb f 0 256 = cc at CZ hZ0 hZ1
      clear hcc
      go_enter Tryd.func15, Tryd.ntmps15
      go_wp2_with (first | rw [← E1.out])
      refine Calls.mono (CZ.out w1) ?_; rintro e w2 ⟨rfl, b2⟩
      have D2 : Hid (Bv w w2 f) := DW.out.grow b2
      clear b2 a0 a1 a2 a3 DW E1
      obtain ⟨a0, a1, a2, a3⟩ := c4 D2.out.fam
      go_wp2_with fail
      refine Calls.mono (CZ.out w2) ?_; rintro e w3 ⟨rfl, b3⟩
      have D3 : Hid (Bv w w3 f) := D2.out.grow b3
      clear b3 a0 a1 a2 a3 D2
      obtain ⟨a0, a1, a2, a3⟩ := c4 D3.out.fam
      go_wp2_with fail
      refine Calls.mono (CS.out w3) ?_; rintro e w5 ⟨⟨b, t, hsg, hbl, rfl⟩, b5⟩
      have D5 : Hid (Bv w w5 f) := D3.out.grow b5
      obtain ⟨hb, ht⟩ := sgl_eq hsg
      clear D3 b5 CS hsg a0 a1 a2 a3 hZ0 hZ1 CZ
      cases hs : t with
      | true =>
        rw [ht] at hs
        have HF : Hid _ := elt_one H0.out.1 H0.out.2 hs
        rw [← hb] at HF
        have CW : Hid _ := fun (v : World) => written13_any aptET aptE isin_aptE (by decide) b hbl v
        unfold aptET at CW
        obtain ⟨tx, htx⟩ : ∃ tx, tbs (wrt b aptE) = tx := ⟨_, rfl⟩
        rw [htx] at CW
        clear hs ht hb
        go_wp2_with fail
        refine Calls.mono (CW.out w5) ?_; rintro e w4 ⟨rfl, b4⟩
        have D4 : Hid (Bv w w4 f) := D5.out.grow b4
        clear b4
        go_wp2_with fail
        refine bodyPost_ret (results_tmp2 rfl _ _ _) rfl ?_
        exact ⟨by unfold Rdx; rw [HF.out, ← htx]; rfl, D4.out.bel⟩
      | false =>
        rw [ht] at hs
        obtain ⟨a0, a1, a2, a3⟩ := c4 D5.out.fam
        have CR : Hid _ := refRuns_any f w5
        clear ht hb hbl
        go_wp2_with fail
        refine Calls.mono CR.out ?_; rintro e w4 ⟨v, rfl, ho, b4⟩
        have D4 : Hid (Bv w w4 f) := D5.out.grow b4
        obtain ⟨ao, c, rfl, hrd⟩ := ownP_read ho
        have HRD : Hid _ := hrd
        clear D5 b4 CR ho hrd a0 a1 a2 a3
        have HF : Hid _ := elt_runs H0.out.1 H0.out.2 hs
        have hl256 := rr_len f 256
        have HLT : Hid _ := rr_lt f 256
        clear hs
        obtain ⟨L, hL⟩ : ∃ L, rr f 256 = L := ⟨_, rfl⟩
        rw [hL] at HRD hl256 HLT HF ⊢
        clear hL
        obtain ⟨n, hn⟩ : ∃ n, L.length = n := ⟨_, rfl⟩
        have HN : Hid (L.length = n) := hn
        rw [hn] at hl256 ⊢
        clear hn
        go_wp2_with fail
        go_loopw [6, 8] (fun vt vk wr => Below w4.heap.size w4 wr ∧ ∃ k : Nat, k ≤ n ∧ vk = .int .i64 (k : Int) ∧ vt = .string (tbs (91 :: runs1 (L.take k)))) (fun _ vk _ => n - (intOf vk).toNat)
        case atStart => exact ⟨Below.refl _ _, 0, Nat.zero_le _, rfl, rfl⟩
        case round =>
          obtain ⟨hbel, k, hk, rfl, rfl⟩ := hrel
          have HB : Hid (Below w4.heap.size w4 wr) := hbel
          have hlt := runs1_le (L.take k)
          rw [List.length_take] at hlt
          clear hbel
          by_cases hkn : k < n
          · have hkI : (k : Int) < (n : Int) := by omega
            have hkL : k < L.length := by rw [HN.out]; exact hkn
            obtain ⟨g, rfl, c0, c1⟩ := HRD.out wr HB.out k hkL
            obtain ⟨r, hr0⟩ : ∃ r, L[k] = r := ⟨_, rfl⟩
            obtain ⟨x, y⟩ := r
            have hr := hr0
            clear hr0
            have hrl : x ≤ y ∧ y < 256 := by have := HLT.out _ (List.getElem_mem hkL); rw [hr] at this; exact this
            rw [hr] at c0 c1
            simp only at c0 c1
            have HTK : Hid (runs1 (L.take (k + 1)) = runs1 (L.take k) ++ run1 (x, y)) := by show _ = _; rw [runs1_take L k hkL, hr]
            have CA : Hid _ := fun (v : World) => written13_any aptCT aptC isin_aptC (by decide) x (by omega) v
            have CB : Hid _ := fun (v : World) => written13_any aptCT aptC isin_aptC (by decide) y hrl.2 v
            unfold aptCT at CA CB
            have lx := wrt_le x aptC
            have ly := wrt_le y aptC
            have cx : IntKind.i64.wrap (x : Int) = (x : Int) := by rw [IntKind.wrap_i64]; omega
            have cy : IntKind.i64.wrap (y : Int) = (y : Int) := by rw [IntKind.wrap_i64]; omega
            have cx1 : IntKind.i64.wrap ((x : Int) + 1) = (x : Int) + 1 := by rw [IntKind.wrap_i64]; omega
            have A1 := add_tbs (91 :: runs1 (L.take k)) (wrt x aptC) (by simp; omega)
            by_cases hxy : x = y
            · subst hxy
              have g1 : ¬ (x : Int) + 1 < (x : Int) := by omega
              have g2 : ¬ (x : Int) < (x : Int) := by omega
              have HT3 : Hid (tbs ((91 :: runs1 (L.take k)) ++ wrt x aptC) = tbs (91 :: runs1 (L.take (k + 1)))) := by show _ = _; rw [HTK.out, run1_one]; rfl
              generalize tbs ((91 :: runs1 (L.take k)) ++ wrt x aptC) = t3 at *
              generalize tbs (91 :: runs1 (L.take k)) = t at *
              generalize tbs (wrt x aptC) = u at *
              clear HTK
              go_wp2_with fail
              refine Calls.mono (CA.out wr) ?_; rintro e w6 ⟨rfl, b6⟩
              have HB6 : Hid (Below w4.heap.size w4 w6) := HB.out.trans (b6.mono HB.out.size)
              clear b6 c0 c1
              go_wp2_with fail
              go_roundw
              case rel => exact ⟨HB6.out, k + 1, by omega, by go_num, by rw [← HT3.out]⟩
              case measure => simp [intOf]; omega
            · by_cases h1 : x + 1 < y
              · have g1 : (x : Int) + 1 < (y : Int) := by omega
                have g2 : (x : Int) < (y : Int) := by omega
                have A2 := add_tbs ((91 :: runs1 (L.take k)) ++ wrt x aptC) [45] (by simp; omega)
                have A3 := add_tbs (((91 :: runs1 (L.take k)) ++ wrt x aptC) ++ [45]) (wrt y aptC) (by simp; omega)
                rw [show tbs [45] = ⟨#[45]⟩ from rfl] at A2
                have HT3 : Hid (tbs ((((91 :: runs1 (L.take k)) ++ wrt x aptC) ++ [45]) ++ wrt y aptC) = tbs (91 :: runs1 (L.take (k + 1)))) := by show _ = _; rw [HTK.out, run1_dash h1]; simp
                generalize tbs ((((91 :: runs1 (L.take k)) ++ wrt x aptC) ++ [45]) ++ wrt y aptC) = t5 at *
                generalize tbs (((91 :: runs1 (L.take k)) ++ wrt x aptC) ++ [45]) = t4 at *
                generalize tbs ((91 :: runs1 (L.take k)) ++ wrt x aptC) = t3 at *
                generalize tbs (91 :: runs1 (L.take k)) = t at *
                generalize tbs (wrt x aptC) = u at *
                generalize tbs (wrt y aptC) = u2 at *
                clear HTK
                go_wp2_with fail
                refine Calls.mono (CA.out wr) ?_; rintro e w6 ⟨rfl, b6⟩
                have HB6 : Hid (Below w4.heap.size w4 w6) := HB.out.trans (b6.mono HB.out.size)
                clear b6 c0 c1
                obtain ⟨g2, hg2, c0, c1⟩ := HRD.out w6 HB6.out k hkL
                obtain rfl : g = g2 := by injection hg2 with h; injection h
                rw [hr] at c0 c1
                simp only at c0 c1
                go_wp2_with fail
                refine Calls.mono (CB.out w6) ?_; rintro e w7 ⟨rfl, b7⟩
                have HB7 : Hid (Below w4.heap.size w4 w7) := HB6.out.trans (b7.mono HB6.out.size)
                clear b7 c0 c1
                go_wp2_with fail
                go_roundw
                case rel => exact ⟨HB7.out, k + 1, by omega, by go_num, by rw [← HT3.out]⟩
                case measure => simp [intOf]; omega
              · have g1 : ¬ (x : Int) + 1 < (y : Int) := by omega
                have g2 : (x : Int) < (y : Int) := by omega
                have A3 := add_tbs ((91 :: runs1 (L.take k)) ++ wrt x aptC) (wrt y aptC) (by simp; omega)
                have HT3 : Hid (tbs (((91 :: runs1 (L.take k)) ++ wrt x aptC) ++ wrt y aptC) = tbs (91 :: runs1 (L.take (k + 1)))) := by show _ = _; rw [HTK.out, run1_two (by omega) h1]; simp
                generalize tbs (((91 :: runs1 (L.take k)) ++ wrt x aptC) ++ wrt y aptC) = t5 at *
                generalize tbs ((91 :: runs1 (L.take k)) ++ wrt x aptC) = t3 at *
                generalize tbs (91 :: runs1 (L.take k)) = t at *
                generalize tbs (wrt x aptC) = u at *
                generalize tbs (wrt y aptC) = u2 at *
                clear HTK
                go_wp2_with fail
                refine Calls.mono (CA.out wr) ?_; rintro e w6 ⟨rfl, b6⟩
                have HB6 : Hid (Below w4.heap.size w4 w6) := HB.out.trans (b6.mono HB.out.size)
                clear b6 c0 c1
                obtain ⟨g2, hg2, c0, c1⟩ := HRD.out w6 HB6.out k hkL
                obtain rfl : g = g2 := by injection hg2 with h; injection h
                rw [hr] at c0 c1
                simp only at c0 c1
                go_wp2_with fail
                refine Calls.mono (CB.out w6) ?_; rintro e w7 ⟨rfl, b7⟩
                have HB7 : Hid (Below w4.heap.size w4 w7) := HB6.out.trans (b7.mono HB6.out.size)
                clear b7 c0 c1
                go_wp2_with fail
                go_roundw
                case rel => exact ⟨HB7.out, k + 1, by omega, by go_num, by rw [← HT3.out]⟩
                case measure => simp [intOf]; omega
          · obtain rfl : k = n := by omega
            have e : L.take k = L := by rw [List.take_of_length_le (by rw [HN.out]; exact Nat.le_refl _)]
            rw [e] at hlt ⊢
            have hl9 := runs1_le L
            have AD := add_tbs (91 :: runs1 L) [93] (by simp; omega)
            rw [show tbs [93] = ⟨#[93]⟩ from rfl] at AD
            have HFT : Hid (tbs ((elt f).getD []) = tbs ((91 :: runs1 L) ++ [93]) ∧ (elt f).isSome = true) := by
              show _ ∧ _
              rw [HF.out]
              exact ⟨rfl, rfl⟩
            generalize tbs ((91 :: runs1 L) ++ [93]) = t2 at *
            generalize tbs (91 :: runs1 L) = t at *
            have BR : Hid (Below w.heap.size w wr) := D4.out.bel.trans (HB.out.mono D4.out.bel.size)
            clear e HRD HLT
            go_wp2_with fail
            refine bodyPost_ret (results_tmp2 rfl _ _ _) rfl ?_
            exact ⟨by unfold Rdx; rw [HFT.out.1, HFT.out.2]; rfl, BR.out⟩

end Cls
end Go.Proofs.YtljahelbbafhlaaDoor
