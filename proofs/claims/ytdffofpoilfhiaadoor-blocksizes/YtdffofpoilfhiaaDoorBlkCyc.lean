/- Contracts of block.cyclic and block.joined. -/
import Derived.Test.YtdffofpoilfhiaaDoorBlkFwd
namespace Go.Proofs.YtdffofpoilfhiaaDoor
open Go.RowKit Res

set_option maxHeartbeats 2000000 in
theorem bcyclic_any (l S : Nat) (hS : S = 2 ^ l) (hl : l ≤ 12) (a b : Nat → Int) (G H : Nat → Nat) (w : World) (hT : Tab w) (tg : Trio w G S (fun k => dft k (rt k l) S a)) (th : Trio w H S (fun k => dft k (rt k l) S b)) :
    Calls Tryd.prog 33 #[.agg #[.slice (some ⟨G 0, 0, none⟩) S S, .slice (some ⟨G 1, 0, none⟩) S S, .slice (some ⟨G 2, 0, none⟩) S S], .agg #[.slice (some ⟨H 0, 0, none⟩) S S, .slice (some ⟨H 1, 0, none⟩) S S, .slice (some ⟨H 2, 0, none⟩) S S]] w fun e w' =>
      ∃ R : Nat → Nat, e = .returned (.agg #[.slice (some ⟨R 0, 0, none⟩) S S, .slice (some ⟨R 1, 0, none⟩) S S, .slice (some ⟨R 2, 0, none⟩) S S]) ∧ Trio w' R S (fun k => cyc k S a b) ∧ Below w.heap.size w w' := by
  have hpos : 1 ≤ S := by rw [hS]; exact Nat.one_le_two_pow
  have hle : S ≤ 4096 := by rw [hS]; exact Nat.pow_le_pow_right (by omega) hl
  obtain ⟨A, hA⟩ : ∃ A : Nat → Nat → Int, A = fun (k : Nat) => dft k (rt k l) S a := ⟨_, rfl⟩
  obtain ⟨B, hB⟩ : ∃ B : Nat → Nat → Int, B = fun (k : Nat) => dft k (rt k l) S b := ⟨_, rfl⟩
  obtain ⟨C, hC⟩ : ∃ C : Nat → Nat → Int, C = fun (k : Nat) => cyc k S a b := ⟨_, rfl⟩
  have hA0 : ∀ k t, 0 ≤ A k t := fun k t => by rw [hA]; exact dft_nonneg _ _ _ _ _
  have hB0 : ∀ k t, 0 ≤ B k t := fun k t => by rw [hB]; exact dft_nonneg _ _ _ _ _
  have c1 : Hid (∀ (k : Nat) (_ : k < 3) (v : World) (_ : Tab v) (lb : Nat) (_ : Fam v lb 0 S (fun t => md k (A k t * B k t))), Calls Tryd.prog 46 #[.int .i64 k, .slice (some ⟨lb, 0, none⟩) S S] v fun e w' => e = .returned (.tuple #[.slice (some ⟨v.heap.size, 0, none⟩) S S, .int .i64 0]) ∧ Fam w' v.heap.size 0 S (C k) ∧ Below v.heap.size v w' ∧ v.heap.size < w'.heap.size) := fun k hk v hv lb fl =>
    (inverse_yes k (pr_ne k hk) l S hS hl lb 0 S _ (fun t => md_nonneg _ _) v hv fl).mono fun e w' ⟨h1, h2, _, h3, h4⟩ => ⟨h1, h2.congr (fun t ht => by rw [hA, hB, hC]; exact idft_mul k (pr_ne k hk) l S hS hl a b t ht), h3, h4⟩
  rw [← hA] at tg
  rw [← hB] at th
  rw [← hC]
  have hmk := run_make_row' (P := Tryd.prog) 22 40 (.int .u64 0) 8 Tryd.underlying22 infoU rfl .i64 .i64 S (by omega) (by omega)
  obtain ⟨w1, x1⟩ := boxR w G S 45
  obtain ⟨w2, x2⟩ := boxR w1 H S 45
  obtain ⟨w3, e3, k3, r3, b3, s3⟩ := bare_box w2 45
  obtain ⟨w4, e4, h4, b4⟩ := three_new w3 S S C 45
  have T1 : Tab w1 := hT.below x1.bel (tab_lt hT)
  have T2 : Tab w2 := T1.below x2.bel (tab_lt T1)
  have T3 : Tab w3 := T2.below b3 (tab_lt T2)
  have T4 : Tab w4 := T3.below b4 (tab_lt T3)
  have E1 : Hid _ := x1.eq
  have E2 : Hid _ := x2.eq
  have E3 : Hid _ := e3
  have E4 : Hid _ := e4
  have H4 : Hid _ := h4
  have z1 : w.heap.size + 1 = w1.heap.size := x1.size.symm
  have z2 : w1.heap.size + 1 = w2.heap.size := x2.size.symm
  have z3 : w2.heap.size + 1 = w3.heap.size := by rw [e3, size_alloc]
  have B14 : Below w1.heap.size w1 w4 := x2.bel.trans ((b3.mono (by omega)).trans (b4.mono (by omega)))
  have B24 : Below w2.heap.size w2 w4 := b3.trans (b4.mono (by omega))
  have B04 : Hid (Below w.heap.size w w4) := x1.bel.trans (B14.mono (by omega))
  have KA : Hid (∀ k, k < 3 → w4.cell? ⟨w.heap.size, k, none⟩ = some (.slice (some ⟨G k, 0, none⟩) S S)) := fun k hk => (B14.cell (p := ⟨w.heap.size, k, none⟩) (by show w.heap.size < _; omega)).trans (x1.cell k hk)
  have KB : Hid (∀ k, k < 3 → w4.cell? ⟨w1.heap.size, k, none⟩ = some (.slice (some ⟨H k, 0, none⟩) S S)) := fun k hk => (B24.cell (p := ⟨w1.heap.size, k, none⟩) (by show w1.heap.size < _; omega)).trans (x2.cell k hk)
  have KR : Hid (∀ k, k < 3 → w4.cell? ⟨w2.heap.size, k, none⟩ = some (.slice none 0 0)) := fun k hk => (b4.cell (p := ⟨w2.heap.size, k, none⟩) s3).trans (k3 k hk)
  have RR : Hid (Wrt w4 w2.heap.size 0 3) := r3.below b4 s3
  have TG : Hid (Trio w4 G S A) := tg.below B04.out (Nat.le_refl _)
  have TH : Hid (Trio w4 H S B) := th.below B04.out (Nat.le_refl _)
  have LG : ∀ k, k < 3 → G k < w.heap.size := fun k hk => (tg k hk).2
  have LH : ∀ k, k < 3 → H k < w.heap.size := fun k hk => (th k hk).2
  have Z1 : Hid _ := z1
  have Z2 : Hid _ := z2
  have Z3 : Hid _ := z3
  have y1 : w.heap.size < w1.heap.size := by omega
  have y2 : w1.heap.size < w2.heap.size := by omega
  have y3 : w2.heap.size < w3.heap.size := by omega
  have hlt3 := tab_lt T3
  clear tg th hA hB hC hS hl x1 x2 e3 e4 h4 k3 r3 b3 b4 B14 B24 z1 z2 z3 T1 T2 T3 hT s3
  go_enter Tryd.func33, Tryd.ntmps33
  go_wp2_with fail
  rw [← E1.out, ← E2.out, ← E3.out, ← E4.out, Z1.out, Z2.out, Z3.out]
  clear E1 E2 E3 E4 Z1 Z2 Z3
  generalize hR : w3.heap.size = R at *
  generalize hRr : w2.heap.size = Q at *
  generalize hRb : w1.heap.size = N at *
  clear hR hRr hRb
  go_loopw [9] (fun vi wr => ∃ k : Nat, k ≤ 3 ∧ vi = .int .i64 k ∧ Three w4 wr R k S S C) (fun vi _ => 3 - (intOf vi).toNat)
  case atStart => exact ⟨0, Nat.zero_le _, rfl, H4.out⟩
  case round =>
    rename World => wo
    obtain ⟨k, hk, rfl, hR⟩ := hrel
    have HR : Hid (Three w4 wo R k S S C) := hR
    have Tr : Tab wo := T4.below hR.bel hlt3
    have hlr := hR.lt
    by_cases hk3 : k < 3
    · have hkI : (k : Int) < 3 := by omega
      have hk0 : (0 : Int) ≤ (k : Int) := by omega
      have ca : wo.cell? ⟨w.heap.size, k, none⟩ = some (.slice (some ⟨G k, 0, none⟩) S S) := (hR.bel.cell (p := ⟨w.heap.size, k, none⟩) (by show w.heap.size < _; omega)).trans (KA.out k hk3)
      have lg := LG k hk3
      have lh := LH k hk3
      have fg : Fam wo (G k) 0 S (A k) := (TG.out k hk3).1.below hR.bel (by omega)
      have fh : Fam wo (H k) 0 S (B k) := (TH.out k hk3).1.below hR.bel (by omega)
      have cb : wo.cell? ⟨N, k, none⟩ = some (.slice (some ⟨H k, 0, none⟩) S S) := (hR.bel.cell (p := ⟨N, k, none⟩) (by show N < _; omega)).trans (KB.out k hk3)
      have hcR := hR.bare k (Nat.le_refl _) hk3
      have hfR := hR.wrt.zero k hk3
      obtain ⟨wa, ea, fa, ra, ba⟩ : ∃ wa, wa = wo.alloc (.cells (madeCells #[.int .u64 0] S) 40) ∧ Fam wa wo.heap.size 0 S (fun _ => 0) ∧ Wrt wa wo.heap.size 0 S ∧ Below wo.heap.size wo wa := ⟨_, rfl, fam_made wo S 40, wrt_made wo S 40, (Below.refl _ _).alloc (Nat.le_refl _) _⟩
      have Ea : Hid _ := ea
      have Ta : Tab wa := Tr.below ba (tab_lt Tr)
      have F0 : Hid (Fill wa wa wo.heap.size S 0 (fun t => md k (A k t * B k t)) (fun _ => 0)) := Fill.start _ fa ra
      have Ca : Hid (wa.cell? ⟨w.heap.size, k, none⟩ = some (.slice (some ⟨G k, 0, none⟩) S S)) := (ba.cell (p := ⟨w.heap.size, k, none⟩) (by show w.heap.size < _; omega)).trans ca
      have Cb : Hid (wa.cell? ⟨N, k, none⟩ = some (.slice (some ⟨H k, 0, none⟩) S S)) := (ba.cell (p := ⟨N, k, none⟩) (by show N < _; omega)).trans cb
      have Fg : Hid (Fam wa (G k) 0 S (A k)) := fg.below ba (by omega)
      have Fh : Hid (Fam wa (H k) 0 S (B k)) := fh.below ba (by omega)
      have Ba : Hid (Below wo.heap.size wo wa) := ba
      have Hsa : Hid (wo.heap.size < wa.heap.size) := by show _ < _; rw [ea, size_alloc]; omega
      have CR : Hid _ := hcR
      have FR : Hid _ := hfR
      clear hR fg fh cb fa ra ba ea hcR hfR
      go_wp2_with fail
      rw [← Ea.out]
      clear Ea ca
      have lgr : G k < wo.heap.size := by omega
      have lhr : H k < wo.heap.size := by omega
      generalize hgr : wo.heap.size = g at *
      have Hgr : Hid (wo.heap.size = g) := hgr
      clear hgr
      have Bwr : Hid (Below g wo wa) := Ba.out
      clear Ba
      go_loopw [19] (fun vi wx => ∃ i : Nat, i ≤ S ∧ vi = .int .i64 i ∧ Fill wa wx g S i (fun t => md k (A k t * B k t)) (fun _ => 0)) (fun vi _ => S - (intOf vi).toNat)
      case atStart => exact ⟨0, Nat.zero_le _, rfl, F0.out⟩
      case round =>
        obtain ⟨i, hi, rfl, hF⟩ := hrel
        have HF : Hid _ := hF
        have Tx : Tab wr := Ta.wrote hF.wrote (fun o e => by omega)
        by_cases hlt2 : i < S
        · have hcA : wr.cell? ⟨w.heap.size, k, none⟩ = some (.slice (some ⟨G k, 0, none⟩) S S) := (hF.wrote.cell _ _ (fun e => by omega)).trans Ca.out
          have hcB : wr.cell? ⟨N, k, none⟩ = some (.slice (some ⟨H k, 0, none⟩) S S) := (hF.wrote.cell _ _ (fun e => by omega)).trans Cb.out
          have hca : wr.cell? ⟨G k, i, none⟩ = some (.int .u64 (A k i)) := (hF.wrote.fam Fg.out (fun t _ e => by omega)).zero i hlt2
          have hcb : wr.cell? ⟨H k, i, none⟩ = some (.int .u64 (B k i)) := (hF.wrote.fam Fh.out (fun t _ e => by omega)).zero i hlt2
          have hcg := hF.fam.zero i hlt2
          have hfg := hF.wrt.zero i hlt2
          have HS : Hid _ := (HF.out.step hlt2 (x := md k (A k i * B k i)) rfl).drew
          have hAi := hA0 k i
          have hBi := hB0 k i
          have hin : (i : Int) < (S : Int) := by omega
          have hi0 : (0 : Int) ≤ (i : Int) := by omega
          have n1 : g ≠ w.heap.size := by omega
          have n2 : g ≠ N := by omega
          have n3 : g ≠ G k := by omega
          have n4 : g ≠ H k := by omega
          clear HF hF
          go_wp2_with fail
          go_region_held3 (fun w' => w'.cell? ⟨w.heap.size, k, none⟩ = some (.slice (some ⟨G k, 0, none⟩) S S) ∧ w'.cell? ⟨N, k, none⟩ = some (.slice (some ⟨H k, 0, none⟩) S S) ∧ w'.cell? ⟨G k, i, none⟩ = some (.int .u64 (A k i)) ∧ w'.cell? ⟨H k, i, none⟩ = some (.int .u64 (B k i))) (go_keep)
            ((go_at_call 45; refine (mul_any k (A k i) (B k i) _ ?hT hAi hBi).mono ?_; (case hT => exact Tx); rintro e w' ⟨rfl, hw'⟩; subst w'))
          go_wp2_with fail
          go_roundw
          case rel => exact ⟨i + 1, by omega, by go_num, HS.out⟩
          case measure => simp [intOf]; omega
        · have hfw : Fam wr g 0 S (fun t => md k (A k t * B k t)) := hF.fin (by omega)
          have c1' : Hid _ := c1.out k hk3 wr Tx g hfw
          have Bx : Hid (Below g wo wr) := Bwr.out.trans (hF.wrote.below (fun b o e => by omega))
          have hltI : ¬ (i : Int) < (S : Int) := by omega
          have CRx : wr.cell? ⟨R, k, none⟩ = some (.slice none 0 0) := (Bx.out.cell (p := ⟨R, k, none⟩) (by show R < g; omega)).trans CR.out
          have FRx : wr.frozen? ⟨R, k, none⟩ = false := (Bx.out.frozen (p := ⟨R, k, none⟩) (by show R < g; omega)).trans FR.out
          have hgs : g ≤ wr.heap.size := by have := Bx.out.size; rw [Hgr.out] at this; exact this
          have hRx : R < wr.heap.size := by omega
          clear hF HF hfw c1
          go_wp2_with fail
          refine Calls.mono (Hid.out c1') ?_; rintro e w4' ⟨rfl, f4, b4, s4⟩
          have HS : Hid _ := HR.out.step hk3 (Bx.out.trans (b4.mono hgs) |>.mono (by rw [Hgr.out]; exact Nat.le_refl _)) (by rw [Hgr.out]; exact hgs) s4 f4 (Nat.le_refl _) (fun _ _ => rfl)
          have hc4 : w4'.cell? ⟨R, k, none⟩ = some (.slice none 0 0) := (b4.cell (p := ⟨R, k, none⟩) hRx).trans CRx
          have hf4 : w4'.frozen? ⟨R, k, none⟩ = false := (b4.frozen (p := ⟨R, k, none⟩) hRx).trans FRx
          clear f4 b4 CRx FRx
          go_wp2_with fail
          go_roundw
          case rel => exact ⟨k + 1, by omega, by go_num, HS.out⟩
          case measure => simp [intOf]; omega
    · obtain rfl : k = 3 := by omega
      have hcB : ∀ k, k < 3 → wo.cell? ⟨Q, k, none⟩ = some (.slice none 0 0) := fun k hk => (hR.bel.cell (p := ⟨Q, k, none⟩) (by show Q < R; omega)).trans (KR.out k hk)
      obtain ⟨G', hG, hw1⟩ := trio_of hR (B := Q) (by omega) hcB
      have x0 := hG 0 (by omega)
      have x1 := hG 1 (by omega)
      have x2 := hG 2 (by omega)
      have y0 := hcB 0 (by omega)
      have y1' := hcB 1 (by omega)
      have y2' := hcB 2 (by omega)
      obtain ⟨z0, z1, z2⟩ := (RR.out.below hR.bel (by omega)).c3
      have HW : Hid _ := hw1
      have Br : Hid (Below w.heap.size w wo) := B04.out.trans (hR.bel.mono (by omega))
      have hQ : w.heap.size ≤ Q := by omega
      clear hR hG hw1 hcB
      go_wp2_with fail
      obtain ⟨⟨q0, q1, q2⟩, tr, bl⟩ := HW.out _ rfl
      refine bodyPost_ret (results_boxR rfl _ _ Q _ _ _ rfl q0 q1 q2) rfl ?_
      exact ⟨G', rfl, tr, Br.out.trans (bl.mono hQ)⟩
end Go.Proofs.YtdffofpoilfhiaaDoor
