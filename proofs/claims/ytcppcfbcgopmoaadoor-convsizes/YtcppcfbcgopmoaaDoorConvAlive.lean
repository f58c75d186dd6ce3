/- Contract of beaglelaw04.alive: it tells true; nothing that was there turns. -/
import Derived.Test.YtcppcfbcgopmoaaDoorConvFas
import Derived.Test.YtcppcfbcgopmoaaDoorSameC
namespace Go.Proofs.YtcppcfbcgopmoaaDoor
open Go.RowKit Res

theorem Told.some {w w' : World} {N M : Nat} {F : Nat → Int} {c c' : Int} {e : Ending} (h : Told w N F c e w') (hN : N = M) (hc : c = c') (hM : 1 ≤ M) :
    ∃ b o cap, e = .returned (.tuple #[.slice (Option.some ⟨b, o, none⟩) M cap, .int .i64 c']) ∧ Fam w' b o M F ∧ b < w'.heap.size ∧ Below w.heap.size w w' := by
  subst hN hc
  obtain ⟨ao, cap, he, hl, hb⟩ := h
  obtain ⟨b, o, rfl, hf⟩ := hl hM
  exact ⟨b, o, cap, he, hf, hf.lt hM, hb⟩
theorem Told.zero {w w' : World} {N : Nat} {F : Nat → Int} {c c' : Int} {e : Ending} (h : Told w N F c e w') (hN : N = 0) (hc : c = c') :
    ∃ ao cap, e = .returned (.tuple #[.slice ao 0 cap, .int .i64 c']) ∧ Below w.heap.size w w' := by
  subst hN hc
  obtain ⟨ao, cap, he, _, hb⟩ := h
  exact ⟨ao, cap, he, hb⟩
theorem lst_le {zs : List Int} {M : Int} (h0 : 0 ≤ M) (h : ∀ z, z ∈ zs → z ≤ M) (t : Nat) : lst zs t ≤ M := by
  unfold lst
  by_cases ht : t < zs.length
  · rw [List.getD_eq_getElem?_getD, List.getElem?_eq_getElem ht]; exact h _ (List.getElem_mem ht)
  · rw [List.getD_eq_getElem?_getD, List.getElem?_eq_none (by omega)]; exact h0
/-- Two literals. -/
theorem two_lits (w : World) (hT : Tab w) (zs ys : List Int) (ty : TypeId) : ∃ v, v = (w.alloc (.cells (zs.map (Value.int .u64)).toArray ty)).alloc (.cells (ys.map (Value.int .u64)).toArray ty) ∧ Tab v ∧ Fam v w.heap.size 0 zs.length (lst zs) ∧ Fam v (w.heap.size + 1) 0 ys.length (lst ys) ∧ Below w.heap.size w v := by
  have hb1 : Below w.heap.size w (w.alloc (.cells (zs.map (Value.int .u64)).toArray ty)) := (Below.refl _ _).alloc (Nat.le_refl _) _
  refine ⟨_, rfl, (hT.alloc _).alloc _, (fam_lit w zs ty).alloc _, ?_, hb1.trans (((Below.refl _ _).alloc (Nat.le_refl _) _).mono hb1.size)⟩
  have := fam_lit (w.alloc (.cells (zs.map (Value.int .u64)).toArray ty)) ys ty
  rwa [size_alloc] at this
theorem one_lit (w : World) (hT : Tab w) (zs : List Int) (ty : TypeId) : ∃ v, v = w.alloc (.cells (zs.map (Value.int .u64)).toArray ty) ∧ Tab v ∧ Fam v w.heap.size 0 zs.length (lst zs) ∧ Below w.heap.size w v :=
  ⟨_, rfl, hT.alloc _, fam_lit w zs ty, (Below.refl _ _).alloc (Nat.le_refl _) _⟩

set_option maxHeartbeats 2000000 in
theorem alive_any (w : World) (hT : Tab w) : Calls Tryd.prog 10 #[] w fun e w' => e = .returned (.bool true) ∧ Below w.heap.size w w' := by
  have p12 : ∀ t, 0 ≤ lst [1, 2] t := lst_nonneg (by decide)
  have p345 : ∀ t, 0 ≤ lst [3, 4, 5] t := lst_nonneg (by decide)
  have q12 : ∀ t, lst [1, 2] t ≤ 18446744073709551615 := lst_le (by decide) (by decide)
  have q345 : ∀ t, lst [3, 4, 5] t ≤ 18446744073709551615 := lst_le (by decide) (by decide)
  have c1 : Hid _ := fun (v : World) (a b : Nat) (fa : Fam v a 0 2 (lst [1, 2])) (fb : Fam v b 0 3 (lst [3, 4, 5])) => school_any (some ⟨a, 0, none⟩) (some ⟨b, 0, none⟩) 2 3 2 3 (by decide) (by decide) _ _ p12 p345 q12 q345 v (fun _ => ⟨a, 0, rfl, fa⟩) (fun _ => ⟨b, 0, rfl, fb⟩)
  have c2 : Hid _ := fun (v : World) (hv : Tab v) (a b : Nat) (fa : Fam v a 0 2 (lst [1, 2])) (fb : Fam v b 0 3 (lst [3, 4, 5])) => fast_any (some ⟨a, 0, none⟩) (some ⟨b, 0, none⟩) 2 3 2 3 (by decide) (by decide) _ _ p12 p345 q12 q345 v hv (fun _ => ⟨a, 0, rfl, fa⟩) (fun _ => ⟨b, 0, rfl, fb⟩)
  have c3 : Hid _ := fun (v : World) (a b : Nat) (fa : Fam v a 0 2 (lst [1, 2])) (fb : Fam v b 0 3 (lst [3, 4, 5])) => correlate_any (some ⟨a, 0, none⟩) (some ⟨b, 0, none⟩) 2 3 2 3 (by decide) (by decide) _ _ p12 p345 q12 q345 v (fun _ => ⟨a, 0, rfl, fa⟩) (fun _ => ⟨b, 0, rfl, fb⟩)
  have c4 : Hid _ := fun (v : World) (hv : Tab v) (a b : Nat) (fa : Fam v a 0 1 (lst [4294967296])) (fb : Fam v b 0 1 (lst [4294967296])) => fast_any (some ⟨a, 0, none⟩) (some ⟨b, 0, none⟩) 1 1 1 1 (by decide) (by decide) _ _ (lst_nonneg (by decide)) (lst_nonneg (by decide)) (lst_le (by decide) (by decide)) (lst_le (by decide) (by decide)) v hv (fun _ => ⟨a, 0, rfl, fa⟩) (fun _ => ⟨b, 0, rfl, fb⟩)
  have c5 : Hid _ := fun (v : World) (a b : Nat) (fa : Fam v a 0 4097 (fun _ => 0)) (fb : Fam v b 0 1 (lst [1])) => school_any (some ⟨a, 0, none⟩) (some ⟨b, 0, none⟩) 4097 1 4097 1 (by decide) (by decide) _ _ (fun _ => by decide) (lst_nonneg (by decide)) (fun _ => by decide) (lst_le (by decide) (by decide)) v (fun _ => ⟨a, 0, rfl, fa⟩) (fun _ => ⟨b, 0, rfl, fb⟩)
  have c6 : Hid (∀ v, Calls Tryd.prog 11 #[.int .i64 5] v fun e w' => e = .returned (.tuple #[.int .i64 8, .bool true]) ∧ w' = v) := fun v => size_yes 5 3 (by decide) (by decide) (by decide) 8 (by decide) (by decide) (by decide) v
  have c7 : Hid (∀ v, Calls Tryd.prog 11 #[.int .i64 0] v fun e w' => e = .returned (.tuple #[.int .i64 0, .bool false]) ∧ w' = v) := fun v => size_no 0 (Or.inl (by decide)) v
  have c8 : Hid (∀ (v : World) (a : Nat), Fam v a 0 3 (lst [2, 7, 3]) → Calls Tryd.prog 13 #[.slice (some ⟨a, 0, none⟩) 3 3] v fun e w' => e = .returned (.int .u64 7) ∧ w' = v) := fun v a fa => greatest_any (some ⟨a, 0, none⟩) 3 3 (by decide) (lst [2, 7, 3]) v (fun _ => ⟨a, 0, rfl, fa⟩)
  have hmk : ∀ v, (Instr.makeSlice 22 (.int .i64 4097) (.int .i64 4097)).run Tryd.prog v = .ok (.slice (some ⟨v.heap.size, 0, none⟩) 4097 4097) (v.alloc (.cells (madeCells #[.int .u64 0] 4097) 26)) := run_make_row' (P := Tryd.prog) 22 26 (.int .u64 0) 8 Tryd.underlying22 infoU rfl .i64 .i64 4097 (by omega) (by omega)
  clear p12 p345 q12 q345
  obtain ⟨v1, e1, T1, f1a, f1b, b1⟩ := two_lits w hT [1, 2] [3, 4, 5] 26
  have E1 : Hid (v1 = (w.alloc (.cells #[.int .u64 1, .int .u64 2] 26)).alloc (.cells #[.int .u64 3, .int .u64 4, .int .u64 5] 26)) := e1
  have B1 : Hid _ := b1
  have c1' : Hid _ := c1.out v1 _ _ f1a f1b
  clear e1 f1a f1b b1 c1 hT
  go_enter Tryd.func10, Tryd.ntmps10
  go_wp2_with fail
  rw [← E1.out]
  clear E1
  refine Calls.mono (Hid.out c1') ?_; intro e w1 h
  obtain ⟨g1, o1, k1, rfl, f1, l1, b1⟩ := h.some (M := 4) (c' := 0) (by decide) (by decide) (by decide)
  have T2 : Tab w1 := T1.below b1 (tab_lt T1)
  have B2 : Hid (Below w.heap.size w w1) := B1.out.trans (b1.mono B1.out.size)
  have F1 : Hid (Fam w1 g1 o1 4 (lst [3, 10, 13, 10])) := f1.congr (by decide)
  clear h b1 f1 c1' B1 T1
  obtain ⟨v2, e2, T3, f2a, f2b, b2⟩ := two_lits w1 T2 [1, 2] [3, 4, 5] 26
  have E2 : Hid (v2 = (w1.alloc (.cells #[.int .u64 1, .int .u64 2] 26)).alloc (.cells #[.int .u64 3, .int .u64 4, .int .u64 5] 26)) := e2
  have B3 : Hid (Below w.heap.size w v2) := B2.out.trans (b2.mono B2.out.size)
  have F2 : Hid (Fam v2 g1 o1 4 (lst [3, 10, 13, 10])) := F1.out.below b2 l1
  have l2 : g1 < v2.heap.size := Nat.lt_of_lt_of_le l1 b2.size
  have c2' : Hid _ := c2.out v2 T3 _ _ f2a f2b
  clear e2 f2a f2b b2 c2 F1 B2 T2
  go_wp2_with fail
  rw [← E2.out]
  clear E2
  refine Calls.mono (Hid.out c2') ?_; intro e w2 h
  obtain ⟨g2, o2, k2, rfl, f2, m2, b2⟩ := h.some (M := 4) (c' := 0) (by decide) (by decide) (by decide)
  have T4 : Tab w2 := T3.below b2 (tab_lt T3)
  have B4 : Hid (Below w.heap.size w w2) := B3.out.trans (b2.mono B3.out.size)
  have F3 : Hid (Fam w2 g1 o1 4 (lst [3, 10, 13, 10])) := F2.out.below b2 l2
  have G3 : Hid (Fam w2 g2 o2 4 (lst [3, 10, 13, 10])) := f2.congr (by decide)
  have l3 : g1 < w2.heap.size := Nat.lt_of_lt_of_le l2 b2.size
  clear h b2 f2 c2' B3 T3 F2
  obtain ⟨v3, e3, T5, f3a, f3b, b3⟩ := two_lits w2 T4 [1, 2] [3, 4, 5] 26
  have E3 : Hid (v3 = (w2.alloc (.cells #[.int .u64 1, .int .u64 2] 26)).alloc (.cells #[.int .u64 3, .int .u64 4, .int .u64 5] 26)) := e3
  have B5 : Hid (Below w.heap.size w v3) := B4.out.trans (b3.mono B4.out.size)
  have F4 : Hid (Fam v3 g1 o1 4 (lst [3, 10, 13, 10])) := F3.out.below b3 l3
  have G4 : Hid (Fam v3 g2 o2 4 (lst [3, 10, 13, 10])) := G3.out.below b3 m2
  have l4 : g1 < v3.heap.size := Nat.lt_of_lt_of_le l3 b3.size
  have m4 : g2 < v3.heap.size := Nat.lt_of_lt_of_le m2 b3.size
  have c3' : Hid _ := c3.out v3 _ _ f3a f3b
  clear e3 f3a f3b b3 c3 F3 G3 B4 T4
  go_wp2_with fail
  rw [← E3.out]
  clear E3
  refine Calls.mono (Hid.out c3') ?_; intro e w3 h
  obtain ⟨g3, o3, k3, rfl, f3, n3, b3⟩ := h.some (M := 2) (c' := 0) (by decide) (by decide) (by decide)
  have T6 : Tab w3 := T5.below b3 (tab_lt T5)
  have B6 : Hid (Below w.heap.size w w3) := B5.out.trans (b3.mono B5.out.size)
  have F5 : Hid (Fam w3 g1 o1 4 (lst [3, 10, 13, 10])) := F4.out.below b3 l4
  have G5 : Hid (Fam w3 g2 o2 4 (lst [3, 10, 13, 10])) := G4.out.below b3 m4
  have K5 : Hid (Fam w3 g3 o3 2 (lst [11, 14])) := f3.congr (by decide)
  have l5 : g1 < w3.heap.size := Nat.lt_of_lt_of_le l4 b3.size
  have m5 : g2 < w3.heap.size := Nat.lt_of_lt_of_le m4 b3.size
  clear h b3 f3 c3' B5 T5 F4 G4
  obtain ⟨v4, e4, T7, f4a, f4b, b4⟩ := two_lits w3 T6 [4294967296] [4294967296] 26
  have E4 : Hid (v4 = (w3.alloc (.cells #[.int .u64 4294967296] 26)).alloc (.cells #[.int .u64 4294967296] 26)) := e4
  have B7 : Hid (Below w.heap.size w v4) := B6.out.trans (b4.mono B6.out.size)
  have Q7 : Hid (Below w3.heap.size w3 v4) := b4
  have c4' : Hid _ := c4.out v4 T7 _ _ f4a f4b
  clear e4 f4a f4b b4 c4 T6
  go_wp2_with fail
  rw [← E4.out]
  clear E4
  refine Calls.mono (Hid.out c4') ?_; intro e w4 h
  obtain ⟨a4, k4, rfl, b4⟩ := h.zero (c' := 40) (by decide) (by decide)
  have T8 : Tab w4 := T7.below b4 (tab_lt T7)
  have B8 : Hid (Below w.heap.size w w4) := B7.out.trans (b4.mono B7.out.size)
  have Q8 : Hid (Below w3.heap.size w3 w4) := Q7.out.trans (b4.mono Q7.out.size)
  clear h b4 c4' B7 Q7 T7
  obtain ⟨v5, e5, T9, b5, f5a⟩ : ∃ v5, v5 = w4.alloc (.cells (madeCells #[.int .u64 0] 4097) 26) ∧ Tab v5 ∧ Below w4.heap.size w4 v5 ∧ Fam v5 w4.heap.size 0 4097 (fun _ => 0) := ⟨_, rfl, T8.alloc _, (Below.refl _ _).alloc (Nat.le_refl _) _, fam_made w4 4097 26⟩
  obtain ⟨v6, e6, T10, f6, b6⟩ := one_lit v5 T9 [1] 26
  have s5 : w4.heap.size + 1 = v5.heap.size := by rw [e5, size_alloc]
  have f5b : Fam v6 w4.heap.size 0 4097 (fun _ => 0) := f5a.below b6 (by omega)
  have c5' : Hid _ := c5.out v6 _ _ f5b f6
  have E5 : Hid (v6 = (w4.alloc (.cells (madeCells #[.int .u64 0] 4097) 26)).alloc (.cells #[.int .u64 1] 26)) := by show _ = _; rw [← e5]; exact e6
  have S5 : Hid (w4.heap.size + 1 = v5.heap.size) := s5
  have B10 : Hid (Below w.heap.size w v6) := B8.out.trans ((b5.mono B8.out.size).trans (b6.mono (Nat.le_trans B8.out.size b5.size)))
  have Q10 : Hid (Below w3.heap.size w3 v6) := Q8.out.trans ((b5.mono Q8.out.size).trans (b6.mono (Nat.le_trans Q8.out.size b5.size)))
  clear e5 e6 f5a f5b f6 b5 b6 c5 s5 T9 T8
  go_wp2_with fail
  rw [← E5.out, S5.out]
  clear E5 S5
  refine Calls.mono (Hid.out c5') ?_; intro e w5 h
  obtain ⟨a5, k5, rfl, b5⟩ := h.zero (c' := 41) (by rw [ln_no (by decide) (by rw [er_long (by decide)]; decide)]) (by rw [ec_some (by decide), er_long (by decide)])
  have T11 : Tab w5 := T10.below b5 (tab_lt T10)
  have B11 : Hid (Below w.heap.size w w5) := B10.out.trans (b5.mono B10.out.size)
  have q11 : Below w3.heap.size w3 w5 := Q10.out.trans (b5.mono Q10.out.size)
  have F6 : Hid (Fam w5 g1 o1 4 (lst [3, 10, 13, 10])) := F5.out.below q11 l5
  have G6 : Hid (Fam w5 g2 o2 4 (lst [3, 10, 13, 10])) := G5.out.below q11 m5
  have K6 : Hid (Fam w5 g3 o3 2 (lst [11, 14])) := K5.out.below q11 n3
  have l6 : g1 < w5.heap.size := Nat.lt_of_lt_of_le l5 q11.size
  have m6 : g2 < w5.heap.size := Nat.lt_of_lt_of_le m5 q11.size
  have n6 : g3 < w5.heap.size := Nat.lt_of_lt_of_le n3 q11.size
  clear h b5 q11 c5' B10 Q10 Q8 B8 T10 F5 G5 K5 hmk
  go_wp2_with fail
  refine Calls.mono (c6.out w5) ?_; rintro e w' ⟨rfl, hw'⟩; subst w'
  go_wp2_with fail
  refine Calls.mono (c7.out w5) ?_; rintro e w' ⟨rfl, hw'⟩; subst w'
  clear c6 c7
  obtain ⟨v7, e7, T12, f7, b7⟩ := one_lit w5 T11 [3, 10, 13, 10] 26
  have E7 : Hid (v7 = w5.alloc (.cells #[.int .u64 3, .int .u64 10, .int .u64 13, .int .u64 10] 26)) := e7
  have c9 : Hid _ := same_fam 4 (by decide) g1 o1 k1 w5.heap.size 0 4 _ _ (fun _ _ => rfl) v7 (F6.out.below b7 l6) f7
  have B12 : Hid (Below w.heap.size w v7) := B11.out.trans (b7.mono B11.out.size)
  have F7 : Hid (Fam v7 g1 o1 4 (lst [3, 10, 13, 10])) := F6.out.below b7 l6
  have G7 : Hid (Fam v7 g2 o2 4 (lst [3, 10, 13, 10])) := G6.out.below b7 m6
  have K7 : Hid (Fam v7 g3 o3 2 (lst [11, 14])) := K6.out.below b7 n6
  have n7 : g3 < v7.heap.size := Nat.lt_of_lt_of_le n6 b7.size
  clear e7 f7 b7 F6 G6 K6 B11 T11
  go_wp2_with fail
  rw [← E7.out]
  clear E7
  refine Calls.mono (Hid.out c9) ?_; rintro e w' ⟨rfl, q, hw'⟩
  have c10 : Hid _ := same_fam 4 (by decide) g2 o2 k2 g1 o1 k1 _ _ (fun _ _ => rfl) w' (by rw [hw']; exact G7.out) (by rw [hw']; exact F7.out)
  have B13 : Hid (Below w.heap.size w w') := by show Below _ _ _; rw [hw']; exact below_drewN B12.out q
  have K8 : Hid (Fam w' g3 o3 2 (lst [11, 14])) := by show Fam _ _ _ _ _; rw [hw']; exact K7.out
  have T13 : Tab w' := by rw [hw']; exact T12
  have n8 : g3 < w'.heap.size := by rw [hw']; exact n7
  clear hw' c9 B12 F7 G7 K7 T12
  go_wp2_with fail
  refine Calls.mono (Hid.out c10) ?_; rintro e w6 ⟨rfl, q6, hw6⟩
  have B14 : Hid (Below w.heap.size w w6) := by show Below _ _ _; rw [hw6]; exact below_drewN B13.out q6
  have K9 : Hid (Fam w6 g3 o3 2 (lst [11, 14])) := by show Fam _ _ _ _ _; rw [hw6]; exact K8.out
  have T14 : Tab w6 := by rw [hw6]; exact T13
  have n9 : g3 < w6.heap.size := by rw [hw6]; exact n8
  clear hw6 c10 B13 K8 T13
  obtain ⟨v8, e8, T15, f8, b8⟩ := one_lit w6 T14 [11, 14] 26
  have E8 : Hid (v8 = w6.alloc (.cells #[.int .u64 11, .int .u64 14] 26)) := e8
  have c11 : Hid _ := same_fam 2 (by decide) g3 o3 k3 w6.heap.size 0 2 _ _ (fun _ _ => rfl) v8 (K9.out.below b8 n9) f8
  have B15 : Hid (Below w.heap.size w v8) := B14.out.trans (b8.mono B14.out.size)
  clear e8 f8 b8 B14 T14 K9
  go_wp2_with fail
  rw [← E8.out]
  clear E8
  refine Calls.mono (Hid.out c11) ?_; rintro e w7 ⟨rfl, q7, hw7⟩
  have B16 : Hid (Below w.heap.size w w7) := by show Below _ _ _; rw [hw7]; exact below_drewN B15.out q7
  have T16 : Tab w7 := by rw [hw7]; exact T15
  clear hw7 c11 B15 T15
  obtain ⟨v9, e9, T17, f9, b9⟩ := one_lit w7 T16 [2, 7, 3] 26
  have E9 : Hid (v9 = w7.alloc (.cells #[.int .u64 2, .int .u64 7, .int .u64 3] 26)) := e9
  have c12 : Hid _ := c8.out v9 w7.heap.size f9
  have B17 : Hid (Below w.heap.size w v9) := B16.out.trans (b9.mono B16.out.size)
  clear e9 f9 b9 B16 T16 c8 T17
  go_wp2_with fail
  rw [← E9.out]
  clear E9
  refine Calls.mono (Hid.out c12) ?_; rintro e w' ⟨rfl, hw'⟩; subst w'
  go_wp2_with fail
  go_ret
  exact ⟨rfl, B17.out⟩
end Go.Proofs.YtcppcfbcgopmoaaDoor
