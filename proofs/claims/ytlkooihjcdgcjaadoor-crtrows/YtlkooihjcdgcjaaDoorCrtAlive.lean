/- Contract of beaglelaw03.alive: it tells true; nothing that was there turns. -/
import Derived.Test.YtlkooihjcdgcjaaDoorCrtRow
import Derived.Test.YtlkooihjcdgcjaaDoorEq3
namespace Go.Proofs.YtlkooihjcdgcjaaDoor
open Go.RowKit Res

theorem nm_all : nm (md 0 18446744073709551615) (md 1 18446744073709551615) (md 2 18446744073709551615) = 18446744073709551615 := nm_back (by decide) (by decide) (md_md _ _) (md_md _ _) (md_md _ _)
theorem nm_7 : nm (md 0 7) (md 1 7) (md 2 7) = 7 := nm_back (by decide) (by decide) (md_md _ _) (md_md _ _) (md_md _ _)
theorem nm_none : nm 998244352 167772160 469762048 = 78674626319836206717730816 := nm_back (by decide) (by decide) (by decide) (by decide) (by decide)
theorem nm_5 : nm 5 5 5 = 5 := nm_back (by decide) (by decide) (by decide) (by decide) (by decide)

set_option maxHeartbeats 2000000 in
theorem alive_any (w : World) (hT : Tab w) : Calls Tryd.prog 15 #[] w fun e w' => e = .returned (.bool true) ∧ Below w.heap.size w w' := by
  have h0 := tab_lt hT
  have c1 : Hid _ := parts_any 18446744073709551615 (by decide) w hT
  have c2 : Hid _ := fun (v : World) (hv : Tab v) => join_any (md 0 18446744073709551615) (md 1 18446744073709551615) (md 2 18446744073709551615) (md_nonneg _ _) (md_nonneg _ _) (md_nonneg _ _) v hv
  have c3 : Hid _ := fun (v : World) (hv : Tab v) => parts_any 7 (by decide) v hv
  have c4 : Hid _ := fun (v : World) (hv : Tab v) => join_any (md 0 7) (md 1 7) (md 2 7) (md_nonneg _ _) (md_nonneg _ _) (md_nonneg _ _) v hv
  have c5 : Hid _ := fun (v : World) (hv : Tab v) => join_any 998244352 167772160 469762048 (by decide) (by decide) (by decide) v hv
  have c6 : Hid _ := fun (v : World) (hv : Tab v) (a b c : Nat) (ha : Fam v a 0 1 (lst [5])) (hb : Fam v b 0 1 (lst [5])) (hc : Fam v c 0 1 (lst [5])) => rows_any (some ⟨a, 0, none⟩) (some ⟨b, 0, none⟩) (some ⟨c, 0, none⟩) 1 1 1 1 (by decide) (lst [5]) (lst [5]) (lst [5]) (lst_nonneg (by decide)) (lst_nonneg (by decide)) (lst_nonneg (by decide)) v hv (fun _ => ⟨a, 0, rfl, ha⟩) (fun _ => ⟨b, 0, rfl, hb⟩) (fun _ => ⟨c, 0, rfl, hc⟩)
  have c7 : Hid _ := fun (v : World) (a : Option Addr) => rows_c none none a 0 1 0 0 1 (by decide) v
  have c8 : Hid _ := fun (v : World) (hv : Tab v) => mixed_any 3 3 3 (by decide) (by decide) (by decide) v hv
  rw [show d0 3 = 3 by decide, show d1 3 3 = 0 by decide, show d2 3 3 3 = 0 by decide] at c8
  go_enter Tryd.func15, Tryd.ntmps15
  go_wp2_with fail
  refine Calls.mono (Hid.out c1) ?_; rintro e w1 ⟨rfl, b1⟩
  have T1 : Tab w1 := hT.below b1 h0
  have B1 : Hid (Below w.heap.size w w1) := b1
  clear b1 c1
  go_wp2_with fail
  refine Calls.mono (c2.out w1 T1) ?_; rintro e w2 ⟨hJ, b2⟩
  obtain rfl := hJ.yes (by rw [nm_all]; decide)
  rw [nm_all]
  have T2 : Tab w2 := T1.below b2 (tab_lt T1)
  have B2 : Hid (Below w.heap.size w w2) := B1.out.trans (b2.mono B1.out.size)
  clear b2 c2 hJ B1 T1
  go_wp2_with fail
  refine Calls.mono (c3.out w2 T2) ?_; rintro e w3 ⟨rfl, b3⟩
  have T3 : Tab w3 := T2.below b3 (tab_lt T2)
  have B3 : Hid (Below w.heap.size w w3) := B2.out.trans (b3.mono B2.out.size)
  clear b3 c3 B2 T2
  go_wp2_with fail
  refine Calls.mono (c4.out w3 T3) ?_; rintro e w4 ⟨hJ, b4⟩
  obtain rfl := hJ.yes (by rw [nm_7]; decide)
  rw [nm_7]
  have T4 : Tab w4 := T3.below b4 (tab_lt T3)
  have B4 : Hid (Below w.heap.size w w4) := B3.out.trans (b4.mono B3.out.size)
  clear b4 c4 hJ B3 T3
  go_wp2_with fail
  refine Calls.mono (c5.out w4 T4) ?_; rintro e w5 ⟨hJ, b5⟩
  obtain rfl := hJ.no (by rw [nm_none]; decide)
  have T5 : Tab w5 := T4.below b5 (tab_lt T4)
  have B5 : Hid (Below w.heap.size w w5) := B4.out.trans (b5.mono B4.out.size)
  have z5 : w.heap.size ≤ w5.heap.size := B5.out.size
  clear b5 c5 hJ B4 T4
  obtain ⟨v1, e1, U1, F1, D1, G1, y1⟩ := lit_facts w5 T5 w.heap.size z5 w B5.out [5] 22
  obtain ⟨v2, e2, U2, F2, D2, G2, y2⟩ := lit_facts v1 U1 w.heap.size (by omega) w D1 [5] 22
  obtain ⟨v3, e3, U3, F3, D3, G3, y3⟩ := lit_facts v2 U2 w.heap.size (by omega) w D2 [5] 22
  have E1 : Hid (v1 = w5.alloc (.cells #[.int .u64 5] 22)) := e1
  have E2 : Hid (v2 = v1.alloc (.cells #[.int .u64 5] 22)) := e2
  have E3 : Hid (v3 = v2.alloc (.cells #[.int .u64 5] 22)) := e3
  have S1 : Hid (w5.heap.size + 1 = v1.heap.size) := by show _ = v1.heap.size; rw [e1, size_alloc]
  have S2 : Hid (v1.heap.size + 1 = v2.heap.size) := by show _ = v2.heap.size; rw [e2, size_alloc]
  have H1 : Hid (Fam v3 w5.heap.size 0 1 (lst [5])) := ((show Fam v1 w5.heap.size 0 1 (lst [5]) from F1).below G2 y1).below G3 (by omega)
  have H2 : Hid (Fam v3 v1.heap.size 0 1 (lst [5])) := (show Fam v2 v1.heap.size 0 1 (lst [5]) from F2).below G3 y2
  have H3 : Hid (Fam v3 v2.heap.size 0 1 (lst [5])) := F3
  have B6 : Hid (Below w.heap.size w v3) := D3
  clear e1 e2 e3 F1 F2 F3 D1 D2 D3 G1 G2 G3 U1 U2
  go_wp2_with fail
  rw [← E1.out, ← E2.out, ← E3.out, S1.out, S2.out]
  clear E1 E2 E3 S1 S2
  refine Calls.mono (c6.out v3 U3 _ _ _ H1.out H2.out H3.out) ?_; rintro e w7 ⟨hR, b7⟩
  have T7 : Tab w7 := U3.below b7 (tab_lt U3)
  have B7 : Hid (Below w.heap.size w w7) := B6.out.trans (b7.mono B6.out.size)
  clear b7 c6 B6 H1 H2 H3
  obtain ⟨g, rfl, hg1, hg2, hf⟩ : ∃ g, e = .returned (.tuple #[.slice (some ⟨g, 0, none⟩) (1 : Nat) 1, .bool true]) ∧ v3.heap.size ≤ g ∧ g < w7.heap.size ∧ w7.cell? ⟨g, 0, none⟩ = some (.int .u64 5) := by
    rcases hR with ⟨_, g, he, h1, h2, h3⟩ | ⟨⟨t, ht, h⟩, _⟩
    · refine ⟨g, he, h1, h2, ?_⟩
      have := h3.zero 0 (by omega)
      rw [this]
      show some (Value.int .u64 (nm 5 5 5)) = _
      rw [nm_5]
    · obtain rfl : t = 0 := by omega
      exfalso
      have h' : 18446744073709551616 ≤ nm 5 5 5 := h
      rw [nm_5] at h'
      omega
  have z7 : w.heap.size ≤ w7.heap.size := B7.out.size
  clear hR
  obtain ⟨v8, e8, U8, _, D8, G8, y8⟩ := lit_facts w7 T7 w.heap.size z7 w B7.out [5] 22
  have E8 : Hid (v8 = w7.alloc (.cells #[.int .u64 5] 22)) := e8
  have hf8 : v8.cell? ⟨g, 0, none⟩ = some (.int .u64 5) := (G8.cell (p := ⟨g, 0, none⟩) hg2).trans hf
  have B8 : Hid (Below w.heap.size w v8) := D8
  clear e8 D8 G8
  go_wp2_with fail
  rw [← E8.out]
  clear E8
  refine Calls.mono (c7.out v8 _) ?_; rintro e w' ⟨rfl, hw'⟩; subst w'
  have c8' : Hid _ := c8.out v8 U8
  clear c7 c8 hf T7
  go_wp2_with fail
  refine Calls.mono (Hid.out c8') ?_; rintro e w9 ⟨rfl, b9⟩
  have B9 : Hid (Below w.heap.size w w9) := B8.out.trans (b9.mono B8.out.size)
  clear b9
  go_wp2_with fail
  go_ret
  exact ⟨rfl, B9.out⟩
end Go.Proofs.YtlkooihjcdgcjaaDoor
