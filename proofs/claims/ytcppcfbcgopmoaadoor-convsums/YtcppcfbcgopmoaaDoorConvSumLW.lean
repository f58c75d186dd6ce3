/- The walk of 'beaglelaw04.ConvSums': it answers true; nothing that was there is turned. For the statement's proof. -/
import Derived.OpenShut
import Derived.ProofKit
import Derived.Test.YtcppcfbcgopmoaaDoorConvLaw
import Derived.Deep.AppendLies
import Derived.Deep.RegionLaw
import Derived.Deep.DrawnRows
namespace Go.Proofs.YtcppcfbcgopmoaaDoor.convSums
open Go.ChangeShapes Go.WideShapes Go.ChangeAt Go.RowKit Res
set_option linter.unusedVariables false

set_option maxHeartbeats 4000000 in
theorem walk (s : Option Addr) (n cap : Nat) (L : Nat → Int) (s2 : Option Addr) (n2 cap2 : Nat) (L2 : Nat → Int) (s3 : Option Addr) (n3 cap3 : Nat) (L3 : Nat → Int) (w : World) (hl : Sl w s n cap L) (hl2 : Sl w s2 n2 cap2 L2) (hl3 : Sl w s3 n3 cap3 L3) (hT : Tab w) :
    Calls Tryd.prog 8 #[.slice s n cap, .slice s2 n2 cap2, .slice s3 n3 cap3] w fun e w' => e = .returned (.bool true) ∧ Below w.heap.size w w' := by
  have al : Hid _ := alive_any
  by_cases hf : n ≤ 300 ∧ n2 ≤ 300
  · have c0 : Hid _ := few_yes s s2 n n2 cap cap2 hf.1 hf.2 w
    by_cases hf3 : n3 ≤ 300
    · have c00 : Hid _ := few_yes s3 none n3 0 cap3 0 hf3 (by omega) w
      by_cases hne : n3 = n2
      · subst hne
        have h1 := hf.1
        obtain ⟨i0, hi, hz0, hz1, hz2⟩ := info_parts infoU
        obtain ⟨D, hD⟩ : ∃ D : Nat → Int, ∀ t, D t = if t < n3 then L2 t + L3 t else 0 := ⟨_, fun _ => rfl⟩
        have hDs : Hid (∀ t, t < n3 → D t = L2 t + L3 t) := fun t ht => by rw [hD, if_pos ht]
        have hD0 : Hid (∀ t, 0 ≤ D t) := fun t => by
          rw [hD]; split
          · exact Int.add_nonneg (hl2.lo t) (hl3.lo t)
          · exact Int.le_refl 0
        have hDM : Hid ((∀ t, t < n3 → L2 t + L3 t ≤ 18446744073709551615) → ∀ t, D t ≤ 18446744073709551615) := fun h t => by
          rw [hD]; split
          · exact h t (by assumption)
          · decide
        have c1 : Hid _ := fun (v : World) (hv : Tab v) (hb : Below w.heap.size w v) => fast_any s s2 n n3 cap cap2 (by omega) (by omega) L L2 hl.lo hl2.lo hl.hi hl2.hi v hv (hl.row.below hb (Nat.le_refl _)) (hl2.row.below hb (Nat.le_refl _))
        have c2 : Hid _ := fun (v : World) (hv : Tab v) (hb : Below w.heap.size w v) => fast_any s s3 n n3 cap cap3 (by omega) (by omega) L L3 hl.lo hl3.lo hl.hi hl3.hi v hv (hl.row.below hb (Nat.le_refl _)) (hl3.row.below hb (Nat.le_refl _))
        have c3 : Hid _ := fun (hM : ∀ t, D t ≤ 18446744073709551615) (v : World) (hv : Tab v) (hb : Below w.heap.size w v) (so : Option Addr) (sc : Nat) (ls : Lies v so n3 D) => fast_any s so n n3 cap sc (by omega) (by omega) L D hl.lo hD0.out hl.hi hM v hv (hl.row.below hb (Nat.le_refl _)) ls
        have hsum : Hid _ := sums_fact n n3 L L2 L3 D hl.lo hl2.lo hl3.lo hD0.out hDs.out
        have M1 : ln n n3 L L2 ≤ 4096 := ln_le _ _ _ _
        have R2 : Hid (Lies w s2 n3 L2) := hl2.row
        have R3 : Hid (Lies w s3 n3 L3) := hl3.row
        have hlo2 := hl2.lo
        have hlo3 := hl3.lo
        have hhi2 := hl2.hi
        have hhi3 := hl3.hi
        have hlt := tab_lt hT
        have hnn : ((n3 : Int) == (n3 : Int)) = true := beq_iff_eq.2 rfl
        clear hl hl2 hl3 hf hD
        generalize ec n n3 L L2 = E1 at *
        generalize ec n n3 L L3 = E2 at *
        generalize ec n n3 L D = E3 at *
        generalize ln n n3 L L2 = N1 at *
        generalize ln n n3 L L3 = N2 at *
        generalize ln n n3 L D = N3 at *
        generalize cv n n3 L L2 = F1 at *
        generalize cv n n3 L L3 = F2 at *
        generalize cv n n3 L D = F3 at *
        go_enter Tryd.func8, Tryd.ntmps8
        go_wp2_with fail
        refine Calls.mono (Hid.out c0) ?_; rintro e w' ⟨rfl, hw'⟩; subst w'
        go_wp2_with fail
        refine Calls.mono (Hid.out c00) ?_; rintro e w' ⟨rfl, hw'⟩; subst w'
        go_wp2_with fail
        clear c0 c00
        go_loopw [7, 35] (fun vs vi wr => ∃ i : Nat, i ≤ n3 ∧ vi = .int .i64 i ∧ (∀ t, t < i → L2 t + L3 t ≤ 18446744073709551615) ∧ Own wr w.heap.size vs i D ∧ Below w.heap.size w wr) (fun _ vi _ => n3 - (intOf vi).toNat)
        case atStart => exact ⟨0, Nat.zero_le _, rfl, fun t h => by omega, own_nil _ _ _, Below.refl _ _⟩
        case round =>
          obtain ⟨i, hile, rfl, hall, hown, hbel⟩ := hrel
          have Hall : Hid _ := hall
          have Hown : Hid (Own wr w.heap.size u7 i D) := hown
          have Hbel : Hid (Below w.heap.size w wr) := hbel
          have Tr : Tab wr := hT.below hbel hlt
          have hsz : w.heap.size ≤ wr.heap.size := hbel.size
          clear hall hown
          by_cases hin : i < n3
          · obtain ⟨b2, o2, rfl, f2⟩ := R2.out (by omega)
            obtain ⟨b3, o3, rfl, f3⟩ := R3.out (by omega)
            have k2 : wr.cell? ⟨b2, o2 + i, none⟩ = some (.int .u64 (L2 i)) := Fam.below f2 hbel (Fam.lt f2 (by omega)) i hin
            have k3 : wr.cell? ⟨b3, o3 + i, none⟩ = some (.int .u64 (L3 i)) := Fam.below f3 hbel (Fam.lt f3 (by omega)) i hin
            have x20 := hlo2 i
            have x30 := hlo3 i
            have x21 := hhi2 i
            have x31 := hhi3 i
            have hinI : (i : Int) < (n3 : Int) := by omega
            clear hbel f2 f3
            by_cases hov : L2 i + L3 i ≤ 18446744073709551615
            · have hov' : L3 i ≤ 18446744073709551615 - L2 i := by omega
              go_wp2_with fail
              go_quiet (fail)
              go_wp2_with fail
              obtain ⟨wq, hwq⟩ : ∃ wq, wq = wr.drewN nq := ⟨_, rfl⟩
              rw [← hwq]
              have k2q : wq.cell? ⟨b2, o2 + i, none⟩ = some (.int .u64 (L2 i)) := by rw [hwq]; exact k2
              have k3q : wq.cell? ⟨b3, o3 + i, none⟩ = some (.int .u64 (L3 i)) := by rw [hwq]; exact k3
              have hownq : Own wq w.heap.size u7 i D := by rw [hwq]; exact Own.drewN Hown.out nq
              have hbelq : Below w.heap.size w wq := by rw [hwq]; exact below_drewN Hbel.out nq
              have hszq : w.heap.size ≤ wq.heap.size := hbelq.size
              have hst : Hid (∀ (w1 : World) (g cap : Nat), w1.ownsRow w.heap.size 26 1 (.slice (some ⟨g, 0, none⟩) (i + 1) cap) (i + 1) (cellsOf D i ++ [.int .u64 (L2 i + L3 i)]) → (wq.alloc (.cells #[.int .u64 (L2 i + L3 i)] 26)).grownBy w1 u7.ownBlock → Own w1 w.heap.size (.slice (some ⟨g, 0, none⟩) (i + 1) cap) (i + 1) D ∧ Below w.heap.size w w1) := fun w1 g cap h1 h2 => own_step (hDs.out i hin).symm hszq hbelq hownq h1 h2
              have HA : Hid (∀ t, t < i + 1 → L2 t + L3 t ≤ 18446744073709551615) := fun t ht => by
                by_cases e : t = i
                · rw [e]; exact hov
                · exact Hall.out t (by omega)
              unfold Own at hownq
              obtain ⟨V, hV⟩ : ∃ V, L2 i + L3 i = V := ⟨_, rfl⟩
              rw [hV] at hst hov
              have hV0 : 0 ≤ V := by omega
              have hwr : IntKind.u64.wrap V = V := by rw [IntKind.wrap_u64]; omega
              rw [← hwr] at hst
              clear hwr
              clear hwq k2 k3 hbelq Hown Hbel Hall hov' Tr
              generalize cellsOf D i = xs at *
              go_region_law ((refine step_append_lies _ (by rfl) _ _ _ (by rfl) w.heap.size 26 i0 (.int .u64 0) 1 8 Tryd.underlying22 hi hz0 hz1 hz2 (by rfl) (by decide) u7 i xs (by simp [Act.eval]) ((hownq.alloc _).drew) ⟨wq.heap.size, 0, none⟩ 1 1 [.int .u64 (IntKind.u64.wrap V)] (by simp [Act.eval]) (by rfl) (World.news_of_block (cs := #[.int .u64 (IntKind.u64.wrap V)]) (t := 26) (fr := (0, 0)) (heap_alloc_new wq _)) (by simp [Value.oneCell']) (by omega) (by unfold maxLen; omega) (by omega) (by simp; omega) (wq.heap.size + 1) (by simp) ?_; intro g cap w1 hown1 hgrow _ _; obtain ⟨r1, r2⟩ := hst.out w1 g cap hown1 (grown_of_drew hgrow); have R1 : Hid _ := r1; have R2 : Hid _ := r2; clear r1 r2 hown1 hgrow))
              all_goals
                go_wp2_with fail
                go_roundw
                case rel => exact ⟨i + 1, by omega, by go_num, HA.out, R1.out, R2.out⟩
                case measure => simp [intOf]; omega
            · have hov' : 18446744073709551615 - L2 i < L3 i := by omega
              have al2 : Hid _ := fun q => al.out (wr.drewN q) Tr
              go_wp2_with fail
              go_quiet (fail)
              go_wp2_with fail
              refine Calls.mono (al2.out nq) ?_; rintro e w3 ⟨rfl, b3⟩
              have B3 : Hid (Below w.heap.size w w3) := (below_drewN Hbel.out nq).trans (b3.mono hsz)
              clear b3 al2
              go_wp2_with fail
              go_ret
              exact ⟨rfl, B3.out⟩
          · obtain rfl : i = n3 := by omega
            obtain ⟨so, sc, rfl, ls⟩ := own_lies Hown.out
            have Ls : Hid (Lies wr so i D) := ls
            have c1' : Hid _ := c1.out wr Tr hbel
            have c3' : Hid _ := c3.out (hDM.out Hall.out)
            clear ls hbel c1 c3 Hown hT
            go_wp2_with fail
            rename World => wo
            refine Calls.mono (Hid.out c1') ?_; rintro e w1 ⟨xo, xc, rfl, lx, b1⟩
            have T1 : Tab w1 := Tr.below b1 (tab_lt Tr)
            have B1 : Hid (Below w.heap.size w w1) := Hbel.out.trans (b1.mono hsz)
            have X1 : Hid (Lies w1 xo N1 F1) := lx
            have Ls1 : Hid (Lies w1 so i D) := Lies.below Ls.out b1 (Nat.le_refl _)
            have c2' : Hid _ := c2.out w1 T1 B1.out
            clear lx b1 c1' c2 Ls Hbel Tr
            go_wp2_with fail
            refine Calls.mono (Hid.out c2') ?_; rintro e w2 ⟨yo, yc, rfl, ly, b2⟩
            have T2 : Tab w2 := T1.below b2 (tab_lt T1)
            have B2 : Hid (Below w.heap.size w w2) := B1.out.trans (b2.mono B1.out.size)
            have X2 : Hid (Lies w2 xo N1 F1) := Lies.below X1.out b2 (Nat.le_refl _)
            have Y2 : Hid (Lies w2 yo N2 F2) := ly
            have c3'' : Hid _ := c3'.out w2 T2 B2.out so sc (Lies.below Ls1.out b2 (Nat.le_refl _))
            clear ly b2 c2' c3' X1 B1 T1 Ls1
            go_wp2_with fail
            refine Calls.mono (Hid.out c3'') ?_; rintro e w3 ⟨zo, zc, rfl, lz, b3⟩
            have T3 : Tab w3 := T2.below b3 (tab_lt T2)
            have B3 : Hid (Below w.heap.size w w3) := B2.out.trans (b3.mono B2.out.size)
            have X3 : Hid (Lies w3 xo N1 F1) := Lies.below X2.out b3 (Nat.le_refl _)
            have Y3 : Hid (Lies w3 yo N2 F2) := Lies.below Y2.out b3 (Nat.le_refl _)
            have Z3 : Hid (Lies w3 zo N3 F3) := lz
            clear lz b3 c3'' X2 Y2 B2 T2
            have al2 : Hid _ := al.out w3 T3
            have hs3 := B3.out.size
            by_cases e1 : E1 = 0
            · subst e1
              by_cases e2 : E2 = 0
              · subst e2
                by_cases e3 : E3 = 0
                · subst e3
                  obtain ⟨N, h1', h2', h3', hst⟩ := hsum.out rfl rfl rfl
                  subst h1' h2' h3'
                  have Hst : Hid _ := hst
                  clear hst hsum al2
                  have hself : ((N3 : Int) == (N3 : Int)) = true := beq_iff_eq.2 rfl
                  go_wp2_with fail
                  go_loopw [105] (fun vj wx => ∃ j : Nat, j ≤ N3 ∧ vj = .int .i64 j ∧ ∃ q, wx = w3.drewN q) (fun vj _ => N3 - (intOf vj).toNat)
                  case atStart => exact ⟨0, Nat.zero_le _, rfl, 0, rfl⟩
                  case round =>
                    obtain ⟨j, hj, rfl, q, hwx⟩ := hrel
                    have HW : Hid (wr = w3.drewN q) := hwx
                    have T7 : Tab wr := by rw [hwx]; exact T3
                    by_cases hjn : j < N3
                    · obtain ⟨xb, xof, rfl, fx⟩ := X3.out (by omega)
                      obtain ⟨yb, yof, rfl, fy⟩ := Y3.out (by omega)
                      obtain ⟨zb, zof, rfl, fz⟩ := Z3.out (by omega)
                      obtain ⟨g1, g2, g3, g4⟩ := Hst.out j hjn
                      have kx : wr.cell? ⟨xb, xof + j, none⟩ = some (.int .u64 (F1 j)) := by rw [hwx]; exact fx j hjn
                      have ky : wr.cell? ⟨yb, yof + j, none⟩ = some (.int .u64 (F2 j)) := by rw [hwx]; exact fy j hjn
                      have kz : wr.cell? ⟨zb, zof + j, none⟩ = some (.int .u64 (F1 j + F2 j)) := by rw [hwx, ← g1]; exact fz j hjn
                      have hjI : (j : Int) < (N3 : Int) := by omega
                      clear hwx fx fy fz g1
                      go_wp2_with fail
                      go_quiet (fail)
                      go_wp2_with fail
                      go_roundw
                      case rel =>
                        refine ⟨j + 1, by omega, by go_num, q + nq, ?_⟩
                        rw [HW.out]
                        exact World.drewN_drewN _ _ _
                      case measure => simp [intOf]; omega
                    · have al3 : Hid _ := al.out wr T7
                      have B4 : Hid (Below w.heap.size w wr) := by show Below _ _ _; rw [hwx]; exact below_drewN B3.out q
                      clear hwx
                      go_wp2_with fail
                      refine Calls.mono (Hid.out al3) ?_; rintro e w4 ⟨rfl, b4⟩
                      have B5 : Hid (Below w.heap.size w w4) := B4.out.trans (b4.mono B4.out.size)
                      clear b4
                      go_wp2_with fail
                      go_ret
                      exact ⟨rfl, B5.out⟩
                · clear hsum
                  go_wp2_with fail
                  refine Calls.mono (Hid.out al2) ?_; rintro e w4 ⟨rfl, b4⟩
                  have B4 : Hid (Below w.heap.size w w4) := B3.out.trans (b4.mono hs3)
                  clear b4
                  go_wp2_with fail
                  go_ret
                  exact ⟨rfl, B4.out⟩
              · clear hsum
                go_wp2_with fail
                refine Calls.mono (Hid.out al2) ?_; rintro e w4 ⟨rfl, b4⟩
                have B4 : Hid (Below w.heap.size w w4) := B3.out.trans (b4.mono hs3)
                clear b4
                go_wp2_with fail
                go_ret
                exact ⟨rfl, B4.out⟩
            · clear hsum
              go_wp2_with fail
              refine Calls.mono (Hid.out al2) ?_; rintro e w4 ⟨rfl, b4⟩
              have B4 : Hid (Below w.heap.size w w4) := B3.out.trans (b4.mono hs3)
              clear b4
              go_wp2_with fail
              go_ret
              exact ⟨rfl, B4.out⟩
      · have hne' : ((n2 : Int) == (n3 : Int)) = false := beq_eq_false_iff_ne.2 (by omega)
        have al2 : Hid _ := al.out w hT
        clear hl hl2 hl3 hf hT al
        go_enter Tryd.func8, Tryd.ntmps8
        go_wp2_with fail
        refine Calls.mono (Hid.out c0) ?_; rintro e w' ⟨rfl, hw'⟩; subst w'
        go_wp2_with fail
        refine Calls.mono (Hid.out c00) ?_; rintro e w' ⟨rfl, hw'⟩; subst w'
        go_wp2_with fail
        refine Calls.mono (Hid.out al2) ?_; rintro e w3 ⟨rfl, b3⟩
        have B3 : Hid (Below w.heap.size w w3) := b3
        clear b3 al2
        go_wp2_with fail
        go_ret
        exact ⟨rfl, B3.out⟩
    · have c00 : Hid _ := few_no s3 none n3 0 cap3 0 (fun h => hf3 h.1) w
      have al2 : Hid _ := al.out w hT
      clear hl hl2 hl3 hf hT al
      go_enter Tryd.func8, Tryd.ntmps8
      go_wp2_with fail
      refine Calls.mono (Hid.out c0) ?_; rintro e w' ⟨rfl, hw'⟩; subst w'
      go_wp2_with fail
      refine Calls.mono (Hid.out c00) ?_; rintro e w' ⟨rfl, hw'⟩; subst w'
      go_wp2_with fail
      refine Calls.mono (Hid.out al2) ?_; rintro e w3 ⟨rfl, b3⟩
      have B3 : Hid (Below w.heap.size w w3) := b3
      clear b3 al2
      go_wp2_with fail
      go_ret
      exact ⟨rfl, B3.out⟩
  · have c0 : Hid _ := few_no s s2 n n2 cap cap2 hf w
    have al2 : Hid _ := al.out w hT
    clear hl hl2 hl3 hf hT al
    go_enter Tryd.func8, Tryd.ntmps8
    go_wp2_with fail
    refine Calls.mono (Hid.out c0) ?_; rintro e w' ⟨rfl, hw'⟩; subst w'
    go_wp2_with fail
    refine Calls.mono (Hid.out al2) ?_; rintro e w3 ⟨rfl, b3⟩
    have B3 : Hid (Below w.heap.size w w3) := b3
    clear b3 al2
    go_wp2_with fail
    go_ret
    exact ⟨rfl, B3.out⟩

end Go.Proofs.YtcppcfbcgopmoaaDoor.convSums
