/- Contract of naive.Counts. -/
import Derived.Test.YtpogipingefkaaaNvCol
namespace Go.Proofs.Ytpogipingefkaaa
open Go.RowKit Go.Shelf
namespace Cls

theorem cts_plc (P : Nat → Nat → Bool) (n : Nat) (K : Int) (s : ByteArray) : (plc 0 (stn P n K s.size)).map (fun i => mis P s i n) = cts P n K s := by
  unfold cts plc
  rw [Nat.sub_zero, List.range_eq_range']

set_option maxRecDepth 100000 in
set_option maxHeartbeats 4000000 in
theorem counts_any (P : Nat → Nat → Bool) (n cap : Nat) (ao : Option Addr) (K : Int) (s : ByteArray) (hs : s.size ≤ 1000000) (w : World) (hl : Lf w ao n P) :
    Calls Try.prog 14 #[.agg #[.slice ao n cap, .int .i64 K], .string s] w (Told w (cts P n K s)) := by
  rw [← cts_plc]
  obtain ⟨w1, b1⟩ := lbox w (.slice ao n cap) (.int .i64 K)
  obtain ⟨w2, e2⟩ : ∃ w2, w2 = w1.alloc (.cells #[.string s] 9) := ⟨_, rfl⟩
  have z1 := b1.size
  have z2 : w2.heap.size = w.heap.size + 1 + 1 := by rw [e2, World.size_alloc, z1]
  have x2 : Boxed w2 (w.heap.size + 1) 9 (.string s) := by rw [e2, ← z1]; exact Boxed.new w1 _ _
  have b12 : Below w1.heap.size w1 w2 := by rw [e2]; exact (Below.refl _ _).alloc (Nat.le_refl _) _
  have l0 : w2.cell? ⟨w.heap.size, 0, none⟩ = some (.slice ao n cap) := (b12.cell (p := ⟨w.heap.size, 0, none⟩) (by show w.heap.size < _; omega)).trans b1.c0
  have l1 : w2.cell? ⟨w.heap.size, 1, none⟩ = some (.int .i64 K) := (b12.cell (p := ⟨w.heap.size, 1, none⟩) (by show w.heap.size < _; omega)).trans b1.c1
  have l2 := x2.cell
  have B2 : Hid (Below w.heap.size w w2) := b1.bel.trans (b12.mono (by omega))
  have HL2 : Hid (Lf w2 ao n P) := hl.grow B2.out
  have E2 : Hid (w2 = (w.alloc (.cells #[.slice ao n cap, .int .i64 K] 24)).alloc (.cells #[.string s] 9)) := by show _ = _; rw [e2, b1.eq]
  have Z2 : Hid (w2.heap.size = w.heap.size + 1 + 1) := z2
  have c1 : Hid _ := room_any P n cap ao K s hs w2 HL2.out
  obtain ⟨m, hm⟩ : ∃ m, stn P n K s.size = m := ⟨_, rfl⟩
  have hst : Hid (∀ i, i < m → rgt P n K = true ∧ i + n ≤ s.size) := fun i hi => stn_lt.1 (by rw [hm]; exact hi)
  have hmle : m ≤ 1000001 := by have := stn_le P n s.size K; omega
  have HM : Hid _ := hm
  rw [hm] at c1
  obtain ⟨i0, hi, hz0, hz1, hz2⟩ := infoI
  clear b1 hl e2 z1 z2 x2 b12 hm
  refine (callsIn_wide (n := 9)).1 (callsIn_of_wp_marks Try.func14 rfl trivial ?_ rfl)
  refine wpIn_wide.2 ?_
  simp only [Try.ntmps14, List.size_toArray, List.length_cons, List.length_nil, Nat.reduceAdd, Nat.reduceSub, Array.replicate_succ, Array.replicate_zero, List.push_toArray, List.append_toArray, List.nil_append, List.cons_append]
  go_wp2_with (first | rw [← E2.out])
  refine Calls.mono (Hid.out c1) ?_; rintro e w3 ⟨rfl, b3⟩
  have sz3 : w.heap.size + 1 < w3.heap.size := by have := Z2.out; have := b3.size; omega
  have B3 : Hid (Below w.heap.size w w3) := B2.out.trans (b3.mono B2.out.size)
  have HL3 : Hid (Lf w3 ao n P) := HL2.out.grow b3
  have k0 : w3.cell? ⟨w.heap.size, 0, none⟩ = some (.slice ao n cap) := (b3.cell (p := ⟨w.heap.size, 0, none⟩) (lt_of_cell l0)).trans l0
  have k1 : w3.cell? ⟨w.heap.size, 1, none⟩ = some (.int .i64 K) := (b3.cell (p := ⟨w.heap.size, 1, none⟩) (lt_of_cell l0)).trans l1
  have k2 : w3.cell? ⟨w.heap.size + 1, 0, none⟩ = some (.string s) := (b3.cell (p := ⟨w.heap.size + 1, 0, none⟩) (lt_of_cell l2)).trans l2
  obtain ⟨w4, hmk, own4, g4⟩ := run_make_own (P := Try.prog) w3 w3.heap.size 30 3 i0 (.int .i64 0) 1 Try.underlying30 hi hz0 hz1 .i64 .i64 m (by rw [hz2]; omega) (by unfold maxLen; omega) (Nat.le_refl _)
  have b4 : Below w3.heap.size w3 w4 := (Below.refl _ _).grown g4 (Nat.le_refl _) (fun k e => by cases e)
  obtain ⟨w5, e5⟩ : ∃ w5, w5 = w4.alloc (.cells #[.slice (some ⟨w3.heap.size, 0, none⟩) 0 m] 30) := ⟨_, rfl⟩
  have E5 : Hid _ := e5
  have bx5 : Boxed w5 w4.heap.size 30 (.slice (some ⟨w3.heap.size, 0, none⟩) 0 m) := by rw [e5]; exact Boxed.new _ _ _
  have own5 : w5.ownsRow w3.heap.size 3 1 (.slice (some ⟨w3.heap.size, 0, none⟩) 0 m) 0 [] := by rw [e5]; exact own4.alloc _
  have b5 : Below w3.heap.size w3 w5 := by rw [e5]; exact b4.alloc b4.size _
  have HL5 : Hid (Lf w5 ao n P) := HL3.out.grow b5
  have m0 : w5.cell? ⟨w.heap.size, 0, none⟩ = some (.slice ao n cap) := (b5.cell (p := ⟨w.heap.size, 0, none⟩) (by show w.heap.size < _; omega)).trans k0
  have m1 : w5.cell? ⟨w.heap.size, 1, none⟩ = some (.int .i64 K) := (b5.cell (p := ⟨w.heap.size, 1, none⟩) (by show w.heap.size < _; omega)).trans k1
  have m2 : w5.cell? ⟨w.heap.size + 1, 0, none⟩ = some (.string s) := (b5.cell (p := ⟨w.heap.size + 1, 0, none⟩) (by show w.heap.size + 1 < _; omega)).trans k2
  have c2 : Hid _ := places_made n cap ao P K 0 s w5 HL5.out
  have y4 : w3.heap.size ≤ w4.heap.size := b4.size
  have y5 : w4.heap.size < w5.heap.size := bx5.lt
  have H5 : Hid (Boxed w5 w4.heap.size 30 (.slice (some ⟨w3.heap.size, 0, none⟩) 0 m) ∧ w5.ownsRow w3.heap.size 3 1 (.slice (some ⟨w3.heap.size, 0, none⟩) 0 m) 0 [] ∧ Below w3.heap.size w3 w5) := ⟨bx5, own5, b5⟩
  clear b3 c1 E2 l0 l1 l2 b4 g4 own4 e5 bx5 own5 b5 HL5
  go_wp2_with (first | rw [← E5.out])
  refine Calls.mono (Hid.out c2) ?_; rintro e w6 ⟨rfl, c6, b6⟩
  have hsq := places_seq _ _ _ n cap ao P K 0 s hs (by omega) w6 c6
  rw [HM.out, show (0 : Int).toNat = 0 from rfl] at hsq
  have y6 := b6.size
  have H6 : Hid (Boxed w6 w4.heap.size 30 (.slice (some ⟨w3.heap.size, 0, none⟩) 0 m) ∧ w6.ownsRow w3.heap.size 3 1 (.slice (some ⟨w3.heap.size, 0, none⟩) 0 m) 0 [] ∧ Below w3.heap.size w3 w6) := ⟨(b6.block _ y5).trans H5.out.1, ownsRow_block H5.out.2.1 (fun g _ hg => b6.block g hg), H5.out.2.2.trans (b6.mono (by omega))⟩
  have HMS : Hid (∀ pre : List Nat, pls ((pre).map fun i => mis P s i n) = pls (pre.map fun i => mis P s i n)) := fun _ => rfl
  clear c2 m0 m1 m2 b6 hmk E5 H5 c6 HMS
  go_wp2_with fail
  refine (wpIn_wide (n := 9)).1 ?_
  refine' wp_seq (gf := 36) rfl (enters_of Try.func36 (by kernel_rfl) rfl) hsq (fun _ => rfl) (fun k h => h.elim)
    (fun pre M W => RB W w4.heap.size w3.heap.size 30 3 (pls (pre.map fun i => mis P s i n)) M ∧ Below w3.heap.size w3 W)
    (fun _ _ _ _ => False) ?abid (fun c s M M' W W' h _ _ => h) ?start
    (fun i => { tmps := #[.agg #[.slice ao n cap, .int .i64 K], .string s, .pointer (some ⟨w.heap.size, 0, none⟩), .pointer (some ⟨w.heap.size + 1, 0, none⟩), .slice none 0 0, .pointer (some ⟨w4.heap.size, 0, none⟩), .int .i64 (i : Int), .agg #[.slice ao n cap, .int .i64 K], .string s, .int .i64 (m : Int), .slice (some ⟨w3.heap.size, 0, none⟩) 0 m, .agg #[.slice ao n cap, .int .i64 K], .string s, .func (.func 36) #[] #[.pointer (some ⟨w5.heap.size, 0, none⟩), .pointer (some ⟨w5.heap.size + 1, 0, none⟩), .pointer (some ⟨w5.heap.size + 1 + 1, 0, none⟩)], .int .i64 (i : Int), undef, undef, undef, undef, undef, undef, undef, undef], defers := [] }) ?assign ?body ?done ?stop
  case abid => exact (RB.abid _ _ _ _ _ _).and (Abid.below (Nat.le_refl _) (by omega))
  case start => exact ⟨⟨_, H6.out.1, H6.out.2.1, fun h => h.elim, fun _ _ h => h.elim⟩, H6.out.2.2⟩
  case assign =>
    intro l' x' V' K' hK
    clear hsq H6 hst HL3 HL2 HM B2 B3 Z2 k0 k1 k2
    gi_wp2
    exact hK
  case stop => exact fun _ _ _ _ _ _ h _ => h.elim
  case done =>
    rintro D V hD ⟨⟨v, hv, hr, _, _⟩, hb⟩ hK
    have HK : Hid (V.heap[D]? = some (.deferred (some []))) := hK
    obtain ⟨L, hL⟩ : ∃ L, (plc 0 m).map (fun i => mis P s i n) = L := ⟨_, rfl⟩
    have HLd : Hid _ := hL
    rw [hL, pls_len] at hr
    have HR : Hid (V.ownsRow w3.heap.size 3 1 v L.length (pls L)) := hr
    have HB : Hid (Below w3.heap.size w3 V) := hb
    have hc := hv.cell
    obtain ⟨ao', c, e, _⟩ := ownI_is (w := V) (B := w3.heap.size) (v := v) (L := L) hr
    subst e
    have hD2 : w3.heap.size ≤ D := by omega
    clear hsq H6 hst HL3 HL2 hr hb hK hv k0 k1 k2 hL
    go_wp2_with fail
    refine ⟨by simp, .inl ⟨_, _, rfl, run_takeDeferred HK.out, ?_⟩⟩
    refine ⟨_, results_tmp rfl _ _ _, ?_⟩
    rw [HM.out, HLd.out]
    refine Told.from (told_of (w := w3) (ownsRow_putObj HR.out _ HK.out rfl) (HB.out.trans (belowK_b (w := w3) (Nat.le_refl _) V D _ _ hD2 HK.out rfl rfl))) B3.out
  case body =>
    rintro lp pre M i V ⟨⟨v, hv, hr, hB, hg⟩, hb⟩ hMV hp
    obtain ⟨_, hin⟩ := hst.out i (plc_mem hp)
    have hlen : pre.length + 1 ≤ m := by have := hp.length_le; rw [plc_len] at this; simpa using this
    obtain ⟨L, hL⟩ : ∃ L, pre.map (fun i => mis P s i n) = L := ⟨_, rfl⟩
    have hLl : L.length = pre.length := by rw [← hL]; simp
    have HLL : Hid (pls ((pre ++ [i]).map fun i => mis P s i n) = pls L ++ [.int .i64 ((mis P s i n : Nat) : Int)]) := by show _ = _; rw [List.map_append, hL]; simp [pls]
    rw [hL] at hr
    have hsz : w3.heap.size ≤ V.heap.size := hb.size
    have hBV := hv.lt
    have cm : Hid (∀ v, Below V.heap.size V v → Calls Try.prog 26 #[.agg #[.slice ao n cap, .int .i64 K], .string s, .int .i64 (i : Int)] v fun e w' => e = .returned (.int .i64 ((mis P s i n : Nat) : Int)) ∧ Below v.heap.size v w') := fun v hv => misses_any P n cap ao K s i hs hin v (HL3.out.grow (hb.trans (hv.mono hsz)))
    have hU : Hid (∀ v, Below V.heap.size V v → v.cell? ⟨w.heap.size, 0, none⟩ = some (.slice ao n cap) ∧ v.cell? ⟨w.heap.size, 1, none⟩ = some (.int .i64 K) ∧ v.cell? ⟨w.heap.size + 1, 0, none⟩ = some (.string s)) := fun v hv => by
      have h := hb.trans (hv.mono hsz)
      exact ⟨(h.cell (p := ⟨w.heap.size, 0, none⟩) (by show w.heap.size < _; omega)).trans k0, (h.cell (p := ⟨w.heap.size, 1, none⟩) (by show w.heap.size < _; omega)).trans k1, (h.cell (p := ⟨w.heap.size + 1, 0, none⟩) (by show w.heap.size + 1 < _; omega)).trans k2⟩
    have c5 : Hid (∀ v', Below V.heap.size V v' → v'.cell? ⟨w4.heap.size, 0, none⟩ = some v) := fun v' h => (h.cell (p := ⟨w4.heap.size, 0, none⟩) hBV).trans hv.cell
    have c12 : Hid (∀ v4, Below V.heap.size V v4 → ∃ g' cap' we, (Builtin.append_ #[30, 30] 30 #[v, .slice (some ⟨v4.heap.size, 0, none⟩) 1 1]).run Try.prog (v4.alloc (.cells #[.int .i64 ((mis P s i n : Nat) : Int)] 3)) = .ok (.slice (some ⟨g', 0, none⟩) (pre.length + 1) cap') we ∧ we.cell? ⟨w.heap.size, 0, none⟩ = some (.slice ao n cap) ∧ we.cell? ⟨w.heap.size, 1, none⟩ = some (.int .i64 K) ∧ we.cell? ⟨w.heap.size + 1, 0, none⟩ = some (.string s) ∧ we.cell? ⟨w4.heap.size, 0, none⟩ = some v ∧ we.frozen? ⟨w4.heap.size, 0, none⟩ = false ∧ Fr M V (we.setCell ⟨w4.heap.size, 0, none⟩ (.slice (some ⟨g', 0, none⟩) (pre.length + 1) cap')) ∧ RB (we.setCell ⟨w4.heap.size, 0, none⟩ (.slice (some ⟨g', 0, none⟩) (pre.length + 1) cap')) w4.heap.size w3.heap.size 30 3 (pls ((pre ++ [i]).map fun i => mis P s i n)) M ∧ Below w3.heap.size w3 (we.setCell ⟨w4.heap.size, 0, none⟩ (.slice (some ⟨g', 0, none⟩) (pre.length + 1) cap'))) := by
      intro v4 b4
      have hv4 : Boxed v4 w4.heap.size 30 v := (b4.block _ hBV).trans hv
      have hr4 : v4.ownsRow w3.heap.size 3 1 v (pls L).length (pls L) := ownsRow_block hr (fun g _ hg => b4.block g hg)
      have hM4 : ∀ k, M k → k < v4.heap.size := fun k h => Nat.lt_of_lt_of_le (hMV k h) b4.size
      have s4 : w3.heap.size ≤ v4.heap.size := Nat.le_trans hsz b4.size
      have lL : (pls L).length = pre.length := by rw [pls_len, hLl]
      obtain ⟨v', we, hrun, h1, h2, h3, h5⟩ := run_append_own_at (P := Try.prog) (v4.alloc (.cells #[.int .i64 ((mis P s i n : Nat) : Int)] 3)) w3.heap.size 30 30 3 i0 (.int .i64 0) 1 8 Try.underlying30 hi hz0 hz1 hz2 rfl (by decide) v _ _ (hr4.alloc _) ⟨v4.heap.size, 0, none⟩ 1 1 [.int .i64 ((mis P s i n : Nat) : Int)] rfl (cell_one_new _ _ _) (by simp [Value.oneCell']) (by unfold maxLen; omega) (by omega) (by simp; omega)
      obtain ⟨g', cap', rfl⟩ := ownsRow_succ h1
      obtain ⟨r1, r2, r3, r4⟩ := RB.append hv4 hr4 hB hg hM4 (by decide) s4 (by omega) h1 h2 h5
      rw [lL] at hrun r1 r2 r3
      have rb : Below w3.heap.size w3 we := (hb.trans (b4.mono hsz)).trans (((Below.refl _ _).alloc s4 _).grown h2 (by simp; omega) (fun k e => (ownsRow_at hr4 e).1))
      refine ⟨g', cap', we, hrun, (rb.cell (p := ⟨w.heap.size, 0, none⟩) (by show w.heap.size < _; omega)).trans k0, (rb.cell (p := ⟨w.heap.size, 1, none⟩) (by show w.heap.size < _; omega)).trans k1, (rb.cell (p := ⟨w.heap.size + 1, 0, none⟩) (by show w.heap.size + 1 < _; omega)).trans k2, r4.cell, r4.frozen, ?_, ?_, ?_⟩
      · exact (Fr.of_below b4 (fun k hk _ => hk)).trans r1
      · rw [HLL.out]; exact r2
      · exact (hb.trans (b4.mono hsz)).trans r3
    have bd : Below V.heap.size V V.drew := (Below.refl _ _).drew
    clear hsq H6 hst HL3 HL2 hv hr hB hg hMV hb hp
    gi_wp2_with fail
    refine region_round (S := fun v => v.cell? ⟨w.heap.size, 0, none⟩ = some (.slice ao n cap) ∧ v.cell? ⟨w.heap.size, 1, none⟩ = some (.int .i64 K) ∧ v.cell? ⟨w.heap.size + 1, 0, none⟩ = some (.string s)) (by kernel_rfl) (by kernel_rfl) (fun ⟨_, _, h⟩ => h) ?_
    have hH := hU.out V.drew bd
    refine takeH (i := 1) (v := .agg #[.slice ao n cap, .int .i64 K]) rfl (by kernel_rfl) (by kernel_rfl) (by kernel_rfl) (fun _ _ _ h => h) rfl ?_ hH ?_
    · rintro v0 ⟨q0, q1, q2⟩
      go_simp
    try simp only [Act.put, List.setIfInBounds_toArray, List.set_cons_zero, List.set_cons_succ]
    refine takeH (i := 2) (v := .string s) rfl (by kernel_rfl) (by kernel_rfl) (by kernel_rfl) (fun _ _ _ h => h) rfl ?_ hH ?_
    · rintro v0 ⟨q0, q1, q2⟩
      go_simp
    try simp only [Act.put, List.setIfInBounds_toArray, List.set_cons_zero, List.set_cons_succ]
    refine takeH (i := 3) (v := .int .i64 (i : Int)) rfl (by kernel_rfl) (by kernel_rfl) (by kernel_rfl) (fun _ _ _ h => h) rfl ?_ hH ?_
    · rintro v0 ⟨q0, q1, q2⟩
      go_simp
    try simp only [Act.put, List.setIfInBounds_toArray, List.set_cons_zero, List.set_cons_succ]
    obtain ⟨W0, hW0⟩ : ∃ W0, W0 = V.drew := ⟨_, rfl⟩
    rw [← hW0]
    have bW0 : Below V.heap.size V W0 := by rw [hW0]; exact bd
    clear hW0 bd hH
    refine stepH2 (i := 0) (j := 4) rfl rfl (by kernel_rfl) rfl rfl (fun K1 hK1 => ?_) (fun K1 hK1 => ?_)
    · have c5W0 := c5.out W0 bW0
      go_simp
      refine hK1.out _ _ (hU.out W0 bW0) ?_
      clear hK1 K1
      try simp only [Act.put, List.setIfInBounds_toArray, List.set_cons_zero, List.set_cons_succ]
      refine stepH (i := 4) rfl (by kernel_rfl) rfl (fun K1 hK1 => ?_)
      go_simp
      refine Calls.mono (cm.out W0 bW0) ?_; rintro e Wa ⟨rfl, pWa⟩
      have bWa : Below V.heap.size V Wa := bW0.trans (pWa.mono (bW0).size)
      refine hK1.out _ _ (hU.out Wa bWa) ?_
      clear hK1 K1
      try simp only [Act.put, List.setIfInBounds_toArray, List.set_cons_zero, List.set_cons_succ]
      refine stepH (i := 5) rfl (by kernel_rfl) rfl (fun K1 hK1 => ?_)
      go_simp
      refine hK1.out _ _ (hU.out _ (bWa.alloc bWa.size _)) ?_
      clear hK1 K1
      try simp only [Act.put, List.setIfInBounds_toArray, List.set_cons_zero, List.set_cons_succ]
      obtain ⟨g', cap', we, hrun, s0, s1, s2, e5, f5, q1, q2, q3⟩ := c12.out Wa bWa
      refine stepH (i := 6) rfl (by kernel_rfl) rfl (fun K2 hK2 => ?_)
      refine wp_append_eq (.tmp 15) (.tmp 20) 30 rfl _ _ _ _ rfl rfl hrun ?_
      refine hK2.out _ _ ⟨s0, s1, s2⟩ ?_
      clear hK2 K2
      try simp only [Act.put, List.setIfInBounds_toArray, List.set_cons_zero, List.set_cons_succ]
      refine stepH (i := 7) rfl (by kernel_rfl) rfl (fun K2 hK2 => ?_)
      go_simp
      refine hK2.out _ _ ⟨?_, ?_, ?_⟩ ?_
      · exact (q3.cell (p := ⟨w.heap.size, 0, none⟩) (by show w.heap.size < _; omega)).trans k0
      · exact (q3.cell (p := ⟨w.heap.size, 1, none⟩) (by show w.heap.size < _; omega)).trans k1
      · exact (q3.cell (p := ⟨w.heap.size + 1, 0, none⟩) (by show w.heap.size + 1 < _; omega)).trans k2
      clear hK2 K2
      refine wpAnyH_done (by kernel_rfl) ?_ _
      exact ⟨q1, q2, q3⟩
    · go_simp
      refine Calls.mono (cm.out W0 bW0) ?_; rintro e Wa ⟨rfl, pWa⟩
      have bWa : Below V.heap.size V Wa := bW0.trans (pWa.mono (bW0).size)
      refine hK1.out _ _ (hU.out Wa bWa) ?_
      clear hK1 K1
      try simp only [Act.put, List.setIfInBounds_toArray, List.set_cons_zero, List.set_cons_succ]
      refine stepH2 (i := 0) (j := 5) rfl rfl (by kernel_rfl) rfl rfl (fun K1 hK1 => ?_) (fun K1 hK1 => ?_)
      · have c5Wa := c5.out Wa bWa
        go_simp
        refine hK1.out _ _ (hU.out Wa bWa) ?_
        clear hK1 K1
        try simp only [Act.put, List.setIfInBounds_toArray, List.set_cons_zero, List.set_cons_succ]
        refine stepH (i := 5) rfl (by kernel_rfl) rfl (fun K1 hK1 => ?_)
        go_simp
        refine hK1.out _ _ (hU.out _ (bWa.alloc bWa.size _)) ?_
        clear hK1 K1
        try simp only [Act.put, List.setIfInBounds_toArray, List.set_cons_zero, List.set_cons_succ]
        obtain ⟨g', cap', we, hrun, s0, s1, s2, e5, f5, q1, q2, q3⟩ := c12.out Wa bWa
        refine stepH (i := 6) rfl (by kernel_rfl) rfl (fun K2 hK2 => ?_)
        refine wp_append_eq (.tmp 15) (.tmp 20) 30 rfl _ _ _ _ rfl rfl hrun ?_
        refine hK2.out _ _ ⟨s0, s1, s2⟩ ?_
        clear hK2 K2
        try simp only [Act.put, List.setIfInBounds_toArray, List.set_cons_zero, List.set_cons_succ]
        refine stepH (i := 7) rfl (by kernel_rfl) rfl (fun K2 hK2 => ?_)
        go_simp
        refine hK2.out _ _ ⟨?_, ?_, ?_⟩ ?_
        · exact (q3.cell (p := ⟨w.heap.size, 0, none⟩) (by show w.heap.size < _; omega)).trans k0
        · exact (q3.cell (p := ⟨w.heap.size, 1, none⟩) (by show w.heap.size < _; omega)).trans k1
        · exact (q3.cell (p := ⟨w.heap.size + 1, 0, none⟩) (by show w.heap.size + 1 < _; omega)).trans k2
        clear hK2 K2
        refine wpAnyH_done (by kernel_rfl) ?_ _
        exact ⟨q1, q2, q3⟩
      · go_simp
        refine hK1.out _ _ (hU.out _ (bWa.alloc bWa.size _)) ?_
        clear hK1 K1
        try simp only [Act.put, List.setIfInBounds_toArray, List.set_cons_zero, List.set_cons_succ]
        refine stepH (i := 0) rfl (by kernel_rfl) rfl (fun K1 hK1 => ?_)
        have c5a := c5.out _ (bWa.alloc bWa.size (.cells #[.int .i64 ((mis P s i n : Nat) : Int)] 3))
        go_simp
        refine hK1.out _ _ (hU.out _ (bWa.alloc bWa.size _)) ?_
        clear hK1 K1
        try simp only [Act.put, List.setIfInBounds_toArray, List.set_cons_zero, List.set_cons_succ]
        obtain ⟨g', cap', we, hrun, s0, s1, s2, e5, f5, q1, q2, q3⟩ := c12.out Wa bWa
        refine stepH (i := 6) rfl (by kernel_rfl) rfl (fun K2 hK2 => ?_)
        refine wp_append_eq (.tmp 15) (.tmp 20) 30 rfl _ _ _ _ rfl rfl hrun ?_
        refine hK2.out _ _ ⟨s0, s1, s2⟩ ?_
        clear hK2 K2
        try simp only [Act.put, List.setIfInBounds_toArray, List.set_cons_zero, List.set_cons_succ]
        refine stepH (i := 7) rfl (by kernel_rfl) rfl (fun K2 hK2 => ?_)
        go_simp
        refine hK2.out _ _ ⟨?_, ?_, ?_⟩ ?_
        · exact (q3.cell (p := ⟨w.heap.size, 0, none⟩) (by show w.heap.size < _; omega)).trans k0
        · exact (q3.cell (p := ⟨w.heap.size, 1, none⟩) (by show w.heap.size < _; omega)).trans k1
        · exact (q3.cell (p := ⟨w.heap.size + 1, 0, none⟩) (by show w.heap.size + 1 < _; omega)).trans k2
        clear hK2 K2
        refine wpAnyH_done (by kernel_rfl) ?_ _
        exact ⟨q1, q2, q3⟩
end Cls
end Go.Proofs.Ytpogipingefkaaa
