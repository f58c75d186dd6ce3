/- Contracts of conv.widened and of conv.Fast, of any rows. -/
import Derived.Test.YtcppcfbcgopmoaaDoorConvCor
import Derived.Laws.CopyOwn
namespace Go.Proofs.YtcppcfbcgopmoaaDoor
open Go.RowKit Res

theorem pd_nonneg {n : Nat} {A : Nat → Int} (h : ∀ t, 0 ≤ A t) (t : Nat) : 0 ≤ pd n A t := by
  unfold pd; split
  · exact h t
  · exact Int.le_refl 0
/-- A row laid over zeros. -/
theorem copy_made (w : World) (b o n c S : Nat) (hS : n ≤ S) (A : Nat → Int) (hf : Fam w b o n A) :
    ∃ w2, (Builtin.copy_ #[22, 22] 3 #[.slice (some ⟨w.heap.size, 0, none⟩) S S, .slice (some ⟨b, o, none⟩) n c]).run Tryd.prog (w.alloc (.cells (madeCells #[.int .u64 0] S) 26)) = .ok (.int .i64 n) w2 ∧ Fam w2 w.heap.size 0 S (pd n A) ∧ Below w.heap.size w w2 ∧ w.heap.size < w2.heap.size := by
  obtain ⟨cu, hb, hnl, hcu⟩ := World.rowIs_made w (.int .u64 0) S 26
  have hlen : (cellsOf A n).length = n := by simp [cellsOf]
  have hr := run_copy_row (P := Tryd.prog) (w.alloc (.cells (madeCells #[.int .u64 0] S) 26)) 22 22 3 26 w.heap.size 0 S S ⟨b, o, none⟩ n c cu 26 (cellsOf A n) Tryd.underlying22 (by kernel_rfl) hb (by rw [hlen]; exact (Nat.min_eq_left hS).symm) (cells_at (hf.alloc _)) (by rw [hlen, hnl]; omega) (cells_one A n)
  rw [hlen] at hr
  refine ⟨_, hr, ?_, ?_, ?_⟩
  · intro t ht
    rw [cell_setRow_same _ _ _ cu _ 26 (0, 0) hb, Nat.zero_add t]
    unfold pd
    have e : ((cu.toList.take 0 ++ cellsOf A n ++ cu.toList.drop (0 + n)).toArray)[t]? = (cellsOf A n ++ cu.toList.drop n)[t]? := by simp
    rw [e]
    by_cases h2 : t < n
    · rw [List.getElem?_append_left (by omega), if_pos h2]
      simp [cellsOf, h2]
    · rw [List.getElem?_append_right (by omega), if_neg h2, hlen, List.getElem?_drop, show n + (t - n) = t by omega, Array.getElem?_toList]
      exact hcu t ht
  · exact below_setRow ((Below.refl _ _).alloc (Nat.le_refl _) _) (Nat.le_refl _) _
  · simp [World.setRow]

set_option maxHeartbeats 400000 in
theorem widened_row (ao : Option Addr) (n c S : Nat) (h1 : 1 ≤ n) (hS : n ≤ S) (hle : S ≤ 4096) (A : Nat → Int) (w : World) (la : Lies w ao n A) :
    Calls Tryd.prog 26 #[.slice ao n c, .int .i64 S] w fun e w' =>
      e = .returned (.slice (some ⟨w.heap.size, 0, none⟩) S S) ∧ Fam w' w.heap.size 0 S (pd n A) ∧ Below w.heap.size w w' ∧ w.heap.size < w'.heap.size := by
  obtain ⟨b, o, rfl, hf⟩ := la h1
  have hmk := run_make_row' (P := Tryd.prog) 22 26 (.int .u64 0) 8 Tryd.underlying22 infoU rfl .i64 .i64 S (by omega) (by omega)
  obtain ⟨w2, hcp, f2, b2, s2⟩ := copy_made w b o n c S hS A hf
  have F2 : Hid _ := f2
  have B2 : Hid _ := b2
  have S2 : Hid _ := s2
  clear la hf f2 b2 s2
  go_enter Tryd.func26, Tryd.ntmps26
  go_wp2_with fail
  go_ret
  exact ⟨rfl, F2.out, B2.out, S2.out⟩

/-- The box of the three rows: k of them are there. -/
structure Three (wc wr : World) (R k N S : Nat) (F : Nat → Nat → Int) : Prop where
  have_ : ∀ i, i < k → ∃ g, wr.cell? ⟨R, i, none⟩ = some (.slice (some ⟨g, 0, none⟩) N S) ∧ Fam wr g 0 N (F i) ∧ R < g ∧ g < wr.heap.size
  bare : ∀ i, k ≤ i → i < 3 → wr.cell? ⟨R, i, none⟩ = some (.slice none 0 0)
  wrt : Wrt wr R 0 3
  bel : Below R wc wr
  lt : R < wr.heap.size
theorem Three.step {wc wr w' : World} {R k N S g : Nat} {F : Nat → Nat → Int} {G : Nat → Int} (h : Three wc wr R k N S F) (hk : k < 3) (hb : Below wr.heap.size wr w') (hg : wr.heap.size ≤ g) (hgl : g < w'.heap.size) (hf : Fam w' g 0 S G) (hN : N ≤ S) (hF : ∀ t, t < N → G t = F k t) :
    Three wc (w'.setCell ⟨R, k, none⟩ (.slice (some ⟨g, 0, none⟩) N S)) R (k + 1) N S F := by
  have hlt := h.lt
  have hsz : (w'.setCell ⟨R, k, none⟩ (.slice (some ⟨g, 0, none⟩) N S)).heap.size = w'.heap.size := (Wrote.setCell (S := fun b _ => b = R) (Wrote.refl _ w') rfl _).size
  refine ⟨fun i hi => ?_, fun i h1 h2 => ?_, ?_, ?_, ?_⟩
  · by_cases e : i = k
    · subst e
      refine ⟨g, ?_, ?_, by omega, by omega⟩
      · have hc : w'.cell? ⟨R, i, none⟩ = some (.slice none 0 0) := (hb.cell (p := ⟨R, i, none⟩) hlt).trans (h.bare i (Nat.le_refl _) hk)
        exact World.cell?_setCell_same _ _ _ hc
      · exact ((hf.head N hN).congr hF).setCell_ne (by omega) _
    · obtain ⟨g', hc, hf', h3, h4⟩ := h.have_ i (by omega)
      refine ⟨g', ?_, (hf'.below hb h4).setCell_ne (by omega) _, h3, by have := hb.size; omega⟩
      rw [cell_setCell_ne _ _ _ _ _ _ (Or.inr e)]
      exact (hb.cell (p := ⟨R, i, none⟩) hlt).trans hc
  · rw [cell_setCell_ne _ _ _ _ _ _ (Or.inr (by omega))]
    exact (hb.cell (p := ⟨R, i, none⟩) hlt).trans (h.bare i (by omega) h2)
  · exact (h.wrt.below hb hlt).setCell _ _
  · exact h.bel.trans ((hb.mono (Nat.le_of_lt hlt)).trans ((Wrote.setCell (S := fun b _ => b = R) (Wrote.refl _ w') rfl _).below (fun b o e => by omega)))
  · have := hb.size; omega
theorem three_new (wb : World) (N S : Nat) (F : Nat → Nat → Int) (ty : TypeId) : ∃ wc, wc = wb.alloc (.cells #[.slice none 0 0, .slice none 0 0, .slice none 0 0] ty) ∧ Three wc wc wb.heap.size 0 N S F ∧ Below wb.heap.size wb wc := by
  refine ⟨_, rfl, ⟨fun i hi => by omega, fun i _ h => ?_, fun i h => ?_, Below.refl _ _, by rw [size_alloc]; omega⟩, (Below.refl _ _).alloc (Nat.le_refl _) _⟩
  · have : i = 0 ∨ i = 1 ∨ i = 2 := by omega
    rcases this with rfl | rfl | rfl <;> simp
  · simp
theorem pr_ne (k : Nat) (hk : k < 3) : pr (k : Int) ≠ 0 := by
  have : k = 0 ∨ k = 1 ∨ k = 2 := by omega
  rcases this with rfl | rfl | rfl <;> decide

set_option maxHeartbeats 2000000 in
theorem fast_any (ao bo : Option Addr) (n m ca cb : Nat) (hn : n ≤ 1152921504606846976) (hm : m ≤ 1152921504606846976) (A B : Nat → Int) (hA0 : ∀ t, 0 ≤ A t) (hB0 : ∀ t, 0 ≤ B t) (hA : ∀ t, A t ≤ 18446744073709551615) (hB : ∀ t, B t ≤ 18446744073709551615) (w : World) (hT : Tab w) (la : Lies w ao n A) (lb : Lies w bo m B) :
    Calls Tryd.prog 19 #[.slice ao n ca, .slice bo m cb] w fun e w' => Told w (ln n m A B) (cv n m A B) (ec n m A B) e w' := by
  by_cases hno : n = 0 ∨ m = 0
  · rw [ec_none hno]
    have hln := ln_none (A := A) (B := B) hno
    have HL : Hid _ := hln
    clear hln la lb
    by_cases hn0 : n = 0
    · subst hn0
      clear hno
      go_enter Tryd.func19, Tryd.ntmps19
      go_wp2_with fail
      go_ret2
      exact Told.nil HL.out (Below.refl _ _)
    · obtain rfl : m = 0 := by omega
      have hd : ((n : Int) == 0) = false := beq_eq_false_iff_ne.2 (by omega)
      clear hno
      go_enter Tryd.func19, Tryd.ntmps19
      go_wp2_with fail
      go_ret2
      exact Told.nil HL.out (Below.refl _ _)
  have h1 : 1 ≤ n := by omega
  have h2 : 1 ≤ m := by omega
  have c1 : Hid _ := errorOf_any ao bo n m ca cb h1 h2 hn hm A B hA hB w la lb
  rw [ec_some hno]
  have hd : ((n : Int) == 0) = false := beq_eq_false_iff_ne.2 (by omega)
  have hd2 : ((m : Int) == 0) = false := beq_eq_false_iff_ne.2 (by omega)
  by_cases hok : er n m (gr n A) (gr m B) = 0
  · have hle := (er_zero hok).1
    obtain ⟨N, hN⟩ : ∃ N, n + m = N + 1 := ⟨n + m - 1, by omega⟩
    obtain ⟨l, hl, hlo, hup⟩ := lg_of N (by omega)
    obtain ⟨S, hS⟩ : ∃ S, S = 2 ^ l := ⟨_, rfl⟩
    have hS1 : S ≤ 4096 := by rw [hS]; exact Nat.pow_le_pow_right (by omega) hl
    have hNS : N ≤ S := by rw [hS]; exact hlo
    have c2 : Hid _ := size_yes N l (by omega) (by omega) hl S hS hlo hup w
    have c3 : Hid _ := widened_row ao n ca S h1 (by omega) hS1 A w la
    have c4 : Hid _ := fun (v : World) (hb : Below w.heap.size w v) => widened_row bo m cb S h2 (by omega) hS1 B v (lb.below hb (Nat.le_refl _))
    have c5 : Hid _ := fun (k : Nat) (hk : k < 3) (v : World) (hv : Tab v) (ga gb : Nat) (fa : Fam v ga 0 S (pd n A)) (fb : Fam v gb 0 S (pd m B)) => cyclic_yes k (pr_ne k hk) l S hS hl ga 0 S gb 0 S (pd n A) (pd m B) (pd_nonneg hA0) (pd_nonneg hB0) v hv fa fb
    have hcyc : Hid (∀ (k : Nat) t, t < N → cyc k S (pd n A) (pd m B) t = md k (cv n m A B t)) := fun k t _ => cyc_cv k n m S h1 h2 (by omega) A B t
    have hfit : ∀ t, cv n m A B t ≤ 18446744073709551615 := cv_fits hA0 hB0 hok
    have hcv0 : ∀ t, 0 ≤ cv n m A B t := cv_nonneg hA0 hB0
    have c6 : Hid (∀ (v : World), Tab v → ∀ g0 g1 g2 : Nat, Fam v g0 0 N (fun t => md 0 (cv n m A B t)) → Fam v g1 0 N (fun t => md 1 (cv n m A B t)) → Fam v g2 0 N (fun t => md 2 (cv n m A B t)) →
        Calls Tryd.prog 28 #[.slice (some ⟨g0, 0, none⟩) N S, .slice (some ⟨g1, 0, none⟩) N S, .slice (some ⟨g2, 0, none⟩) N S] v fun e w' => ∃ g, e = .returned (.tuple #[.slice (some ⟨g, 0, none⟩) N N, .bool true]) ∧ Fam w' g 0 N (cv n m A B) ∧ Below v.heap.size v w') := fun v hv g0 g1 g2 f0 f1 f2 => by
      refine (rows_any _ _ _ N S S S (by omega) _ _ _ (fun t => md_nonneg _ _) (fun t => md_nonneg _ _) (fun t => md_nonneg _ _) v hv (fun _ => ⟨g0, 0, rfl, f0⟩) (fun _ => ⟨g1, 0, rfl, f1⟩) (fun _ => ⟨g2, 0, rfl, f2⟩)).mono ?_
      rintro e w' ⟨ht, hb⟩
      have key : ∀ t, nm (md 0 (cv n m A B t)) (md 1 (cv n m A B t)) (md 2 (cv n m A B t)) = cv n m A B t := fun t => nm_of (hcv0 t) (hfit t)
      rcases ht with ⟨_, g, he, _, _, hf⟩ | ⟨⟨t, _, hbig⟩, _⟩
      · exact ⟨g, he, hf.congr (fun t _ => key t), hb⟩
      · exfalso
        have := hfit t
        have hbig' : 18446744073709551616 ≤ nm (md 0 (cv n m A B t)) (md 1 (cv n m A B t)) (md 2 (cv n m A B t)) := hbig
        rw [key t] at hbig'
        omega
    have HL : Hid (ln n m A B = N) := by show _ = _; rw [ln_ok hno hok]; omega
    rw [hok] at c1 ⊢
    have hlt := tab_lt hT
    have hNI : (n : Int) + (m : Int) - 1 = (N : Int) := by omega
    clear la lb hok hno hA hB hA0 hB0 hfit hcv0 hS hlo hup
    generalize cv n m A B = Z at *
    generalize pd n A = PA at *
    generalize pd m B = PB at *
    go_enter Tryd.func19, Tryd.ntmps19
    go_wp2_with fail
    refine Calls.mono (Hid.out c1) ?_; rintro e w' ⟨rfl, hw'⟩; subst w'
    go_wp2_with fail
    refine Calls.mono (Hid.out c2) ?_; rintro e w' ⟨rfl, hw'⟩; subst w'
    go_wp2_with fail
    refine Calls.mono (Hid.out c3) ?_; rintro e wa ⟨rfl, fa, ba, sa⟩
    have Ta : Tab wa := hT.below ba hlt
    have Fa : Hid (Fam wa w.heap.size 0 S PA) := fa
    have Ba : Hid (Below w.heap.size w wa) := ba
    have c4' : Hid _ := c4.out wa ba
    clear fa ba c4 c3 c2 c1
    go_wp2_with fail
    refine Calls.mono (Hid.out c4') ?_; rintro e wb ⟨rfl, fb, bb, sb⟩
    have Tb : Tab wb := Ta.below bb (tab_lt Ta)
    have Fb : Hid (Fam wb wa.heap.size 0 S PB) := fb
    have Fa2 : Hid (Fam wb w.heap.size 0 S PA) := Fa.out.below bb sa
    have Bb : Hid (Below w.heap.size w wb) := Ba.out.trans (bb.mono (by omega))
    clear fb bb c4' Fa Ba Ta
    obtain ⟨wc, ec, h3, bc⟩ := three_new wb N S (fun k t => md k (Z t)) 38
    have Ec : Hid _ := ec
    have Tc : Tab wc := Tb.below bc (tab_lt Tb)
    have H3 : Hid _ := h3
    have Fa3 : Hid (Fam wc w.heap.size 0 S PA) := Fa2.out.below bc (by omega)
    have Fb3 : Hid (Fam wc wa.heap.size 0 S PB) := Fb.out.below bc (by omega)
    have Bc : Hid (Below w.heap.size w wc) := Bb.out.trans (bc.mono (by omega))
    have htb := tab_lt Tb
    clear ec h3 bc Fb Fa2 Bb Tb
    go_wp2_with fail
    rw [← Ec.out]
    clear Ec
    generalize hR : wb.heap.size = R at *
    clear hR
    go_loopw [47] (fun vi wr => ∃ k : Nat, k ≤ 3 ∧ vi = .int .i64 k ∧ Three wc wr R k N S (fun k t => md k (Z t))) (fun vi _ => 3 - (intOf vi).toNat)
    case atStart => exact ⟨0, Nat.zero_le _, rfl, H3.out⟩
    case round =>
      obtain ⟨k, hk, rfl, hR⟩ := hrel
      have HR : Hid (Three wc wr R k N S (fun k t => md k (Z t))) := hR
      have Tr : Tab wr := Tc.below hR.bel htb
      by_cases hk3 : k < 3
      · have c5' : Hid _ := c5.out k hk3 wr Tr w.heap.size wa.heap.size (Fa3.out.below hR.bel (by omega)) (Fb3.out.below hR.bel (by omega))
        have hlr := hR.lt
        have hcR := hR.bare k (Nat.le_refl _) hk3
        have hfR := hR.wrt.zero k hk3
        have hkI : (k : Int) < 3 := by omega
        clear hR
        go_wp2_with fail
        refine Calls.mono (Hid.out c5') ?_; rintro e w4 ⟨g, rfl, hg, hgl, f4, b4⟩
        have HS : Hid _ := HR.out.step hk3 b4 hg hgl f4 hNS (hcyc.out k)
        have hc4 : w4.cell? ⟨R, k, none⟩ = some (.slice none 0 0) := (b4.cell (p := ⟨R, k, none⟩) hlr).trans hcR
        have hf4 : w4.frozen? ⟨R, k, none⟩ = false := (b4.frozen (p := ⟨R, k, none⟩) hlr).trans hfR
        clear f4 b4 hcR hfR
        go_wp2_with fail
        go_roundw
        case rel => exact ⟨k + 1, by omega, by go_num, HS.out⟩
        case measure => simp [intOf]; omega
      · obtain rfl : k = 3 := by omega
        obtain ⟨g0, k0, f0, _, _⟩ := hR.have_ 0 (by omega)
        obtain ⟨g1, k1, f1, _, _⟩ := hR.have_ 1 (by omega)
        obtain ⟨g2, k2, f2, _, _⟩ := hR.have_ 2 (by omega)
        have c6' : Hid _ := c6.out wr Tr g0 g1 g2 f0 f1 f2
        have Br : Hid (Below w.heap.size w wr) := Bc.out.trans (hR.bel.mono (by omega))
        have hsr := Br.out.size
        clear hR HR f0 f1 f2 c5 c6
        go_wp2_with fail
        refine Calls.mono (Hid.out c6') ?_; rintro e w5 ⟨g, rfl, f5, b5⟩
        have F5 : Hid _ := f5
        have B5 : Hid (Below w.heap.size w w5) := Br.out.trans (b5.mono hsr)
        clear f5 b5
        go_wp2_with fail
        go_ret2
        exact Told.row HL.out F5.out B5.out
  · have HL : Hid _ := ln_no hno hok
    have hok' : (er n m (gr n A) (gr m B) == 0) = false := beq_eq_false_iff_ne.2 hok
    clear la lb hno hA hB hA0 hB0
    generalize er n m (gr n A) (gr m B) = E at *
    go_enter Tryd.func19, Tryd.ntmps19
    go_wp2_with fail
    refine Calls.mono (Hid.out c1) ?_; rintro e w' ⟨rfl, hw'⟩; subst w'
    go_wp2_with fail
    go_ret2
    exact Told.nil HL.out (Below.refl _ _)
end Go.Proofs.YtcppcfbcgopmoaaDoor
