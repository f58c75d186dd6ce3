/- Contract of beaglelaw05.alive: it tells true; nothing that was there turns. Of few, too. -/
import Derived.Test.YtdffofpoilfhiaaDoorBlkAny
import Derived.Test.YtdffofpoilfhiaaDoorBlkFit
namespace Go.Proofs.YtdffofpoilfhiaaDoor
open Go.RowKit Res

theorem Told3.row {w w' : World} {N M : Nat} {F : Nat → Int} {q q' c c' : Int} {e : Ending} (h : Told3 w N F q c e w') (hN : N = M) (hq : q = q') (hc : c = c') (hM : 1 ≤ M) :
    ∃ b o cap, e = .returned (.tuple #[.slice (Option.some ⟨b, o, none⟩) M cap, .int .i64 q', .int .i64 c']) ∧ Fam w' b o M F ∧ b < w'.heap.size ∧ Below w.heap.size w w' := by
  subst hN hc hq
  obtain ⟨ao, cap, he, hl, hb⟩ := h
  obtain ⟨b, o, rfl, hf⟩ := hl hM
  exact ⟨b, o, cap, he, hf, hf.lt hM, hb⟩
theorem Told3.zero {w w' : World} {N : Nat} {F : Nat → Int} {q q' c c' : Int} {e : Ending} (h : Told3 w N F q c e w') (hN : N = 0) (hq : q = q') (hc : c = c') :
    ∃ ao cap, e = .returned (.tuple #[.slice ao 0 cap, .int .i64 q', .int .i64 c']) ∧ Below w.heap.size w w' := by
  subst hN hc hq
  obtain ⟨ao, cap, he, _, hb⟩ := h
  exact ⟨ao, cap, he, hb⟩
theorem Sl.below {w w' : World} {ao : Option Addr} {n cap : Nat} {L : Nat → Int} (h : Sl w ao n cap L) (hb : Below w.heap.size w w') : Sl w' ao n cap L :=
  ⟨h.le, h.room, h.lo, h.hi, fun hn => let ⟨b, o, e, f⟩ := h.lies hn; ⟨b, o, e, f.below hb (f.lt hn)⟩, h.bare⟩
theorem fb_one : (fb 1 1 13).1 = 1 := by decide +kernel

set_option maxHeartbeats 400000 in
theorem bfew_yes (ao bo : Option Addr) (n m ca cb : Nat) (h1 : n ≤ 300) (h2 : m ≤ 2000) (w : World) : Calls Tryd.prog 10 #[.slice ao n ca, .slice bo m cb] w fun e w' => e = .returned (.bool true) ∧ w' = w := by
  have d1 : decide ((n : Int) ≤ 300) = true := decide_eq_true (by omega)
  have d2 : decide ((m : Int) ≤ 2000) = true := decide_eq_true (by omega)
  go_enter Tryd.func10, Tryd.ntmps10
  go_wp2_with fail
  go_ret
  exact ⟨rfl, rfl⟩
set_option maxHeartbeats 400000 in
theorem bfew_no (ao bo : Option Addr) (n m ca cb : Nat) (h : ¬ (n ≤ 300 ∧ m ≤ 2000)) (w : World) : Calls Tryd.prog 10 #[.slice ao n ca, .slice bo m cb] w fun e w' => e = .returned (.bool false) ∧ w' = w := by
  by_cases h1 : n ≤ 300
  · have d1 : decide ((n : Int) ≤ 300) = true := decide_eq_true (by omega)
    have d2 : decide ((m : Int) ≤ 2000) = false := decide_eq_false (by omega)
    clear h h1
    go_enter Tryd.func10, Tryd.ntmps10
    go_wp2_with fail
    go_ret
    exact ⟨rfl, rfl⟩
  · have d1 : decide ((n : Int) ≤ 300) = false := decide_eq_false (by omega)
    clear h h1
    go_enter Tryd.func10, Tryd.ntmps10
    go_wp2_with fail
    go_ret
    exact ⟨rfl, rfl⟩

set_option maxHeartbeats 2000000 in
theorem balive_any (w : World) (hT : Tab w) : Calls Tryd.prog 11 #[] w fun e w' => e = .returned (.bool true) ∧ Below w.heap.size w w' := by
  have p12 : ∀ t, 0 ≤ lst [1, 2] t := lst_nonneg (by decide)
  have p345 : ∀ t, 0 ≤ lst [3, 4, 5] t := lst_nonneg (by decide)
  have q12 : ∀ t, lst [1, 2] t ≤ 18446744073709551615 := lst_le (by decide) (by decide)
  have q345 : ∀ t, lst [3, 4, 5] t ≤ 18446744073709551615 := lst_le (by decide) (by decide)
  have c1 : Hid _ := fun (v : World) (hv : Tab v) (a b : Nat) (fa : Fam v a 0 2 (lst [1, 2])) (fb : Fam v b 0 3 (lst [3, 4, 5])) (s : Int) => bcor_any (some ⟨a, 0, none⟩) (some ⟨b, 0, none⟩) 2 3 2 3 s (by decide) (by decide) (by decide) _ _ p12 p345 q12 q345 v hv (fun _ => ⟨a, 0, rfl, fa⟩) (fun _ => ⟨b, 0, rfl, fb⟩)
  have c3 : Hid _ := fun (v : World) (hv : Tab v) (a b : Nat) (fa : Fam v a 0 1 (lst [1099511627776])) (fb : Fam v b 0 1 (lst [1099511627776])) (s : Int) => bcor_any (some ⟨a, 0, none⟩) (some ⟨b, 0, none⟩) 1 1 1 1 s (by decide) (by decide) (by decide) _ _ (lst_nonneg (by decide)) (lst_nonneg (by decide)) (lst_le (by decide) (by decide)) (lst_le (by decide) (by decide)) v hv (fun _ => ⟨a, 0, rfl, fa⟩) (fun _ => ⟨b, 0, rfl, fb⟩)
  have c4 : Hid (∀ v, Calls Tryd.prog 12 #[.slice none 0 0, .slice none 0 0, .int .i64 0] v fun e w' => e = .returned (.int .i64 0) ∧ w' = v) := fun v => by
    have := bcheck_any none none 0 0 0 0 0 (by decide) (by decide) (fun _ => 0) (fun _ => 0) (fun _ => by decide) (fun _ => by decide) v (fun h => by omega) (fun h => by omega)
    rw [bc_none (Or.inl rfl)] at this
    exact this
  have c5 : Hid (∀ v, Calls Tryd.prog 14 #[.int .i64 2, .int .i64 3, .int .i64 4] v fun e w' => e = .returned (.int .i64 9) ∧ w' = v) := fun v => by
    have := count_any 2 3 4 v
    rw [show ct 2 3 4 = 9 by decide] at this
    exact this
  have c6 : Hid (∀ v, Calls Tryd.prog 14 #[.int .i64 2, .int .i64 3, .int .i64 1] v fun e w' => e = .returned (.int .i64 0) ∧ w' = v) := fun v => by
    have := count_any 2 3 1 v
    rw [show ct 2 3 1 = 0 by decide] at this
    exact this
  have c7 : Hid (∀ v, Calls Tryd.prog 16 #[.int .i64 3, .int .i64 2] v fun e w' => e = .returned (.int .i64 0) ∧ w' = v) := fun v => by
    have := fit_any 3 2 v
    rw [(fb_zero 3 2).2 (by decide)] at this
    exact this
  have c8 : Hid (∀ v, Calls Tryd.prog 16 #[.int .i64 1, .int .i64 1] v fun e w' => e = .returned (.int .i64 1) ∧ w' = v) := fun v => by
    have := fit_any 1 1 v
    rw [fb_one] at this
    exact this
  clear p12 p345 q12 q345
  obtain ⟨v1, e1, T1, f1a, f1b, b1⟩ := two_lits w hT [1, 2] [3, 4, 5] 40
  have E1 : Hid (v1 = (w.alloc (.cells #[.int .u64 1, .int .u64 2] 40)).alloc (.cells #[.int .u64 3, .int .u64 4, .int .u64 5] 40)) := e1
  have B1 : Hid _ := b1
  have c1' : Hid _ := c1.out v1 T1 _ _ f1a f1b 2
  clear e1 f1a f1b b1 hT
  go_enter Tryd.func11, Tryd.ntmps11
  go_wp2_with fail
  rw [← E1.out]
  clear E1
  refine Calls.mono (Hid.out c1') ?_; intro e w1 h
  obtain ⟨g1, o1, k1, rfl, f1, l1, b1⟩ := h.row (M := 2) (q' := 15) (c' := 0) (by decide) (by decide) (by decide) (by decide)
  have T2 : Tab w1 := T1.below b1 (tab_lt T1)
  have B2 : Hid (Below w.heap.size w w1) := B1.out.trans (b1.mono B1.out.size)
  have F1 : Hid (Fam w1 g1 o1 2 (lst [11, 14])) := f1.congr (by decide)
  clear h b1 f1 c1' B1 T1
  obtain ⟨v2, e2, T3, f2a, f2b, b2⟩ := two_lits w1 T2 [1, 2] [3, 4, 5] 40
  have E2 : Hid (v2 = (w1.alloc (.cells #[.int .u64 1, .int .u64 2] 40)).alloc (.cells #[.int .u64 3, .int .u64 4, .int .u64 5] 40)) := e2
  have B3 : Hid (Below w.heap.size w v2) := B2.out.trans (b2.mono B2.out.size)
  have F2 : Hid (Fam v2 g1 o1 2 (lst [11, 14])) := F1.out.below b2 l1
  have l2 : g1 < v2.heap.size := Nat.lt_of_lt_of_le l1 b2.size
  have c2' : Hid _ := c1.out v2 T3 _ _ f2a f2b 1
  clear e2 f2a f2b b2 c1 F1 B2 T2
  go_wp2_with fail
  rw [← E2.out]
  clear E2
  refine Calls.mono (Hid.out c2') ?_; intro e w2 h
  obtain ⟨a2, k2, rfl, b2⟩ := h.zero (q' := 0) (c' := 50) (by decide) (by decide) (by decide)
  have T4 : Tab w2 := T3.below b2 (tab_lt T3)
  have B4 : Hid (Below w.heap.size w w2) := B3.out.trans (b2.mono B3.out.size)
  have F3 : Hid (Fam w2 g1 o1 2 (lst [11, 14])) := F2.out.below b2 l2
  have l3 : g1 < w2.heap.size := Nat.lt_of_lt_of_le l2 b2.size
  clear h b2 c2' B3 T3 F2
  obtain ⟨v3, e3, T5, f3a, f3b, b3⟩ := two_lits w2 T4 [1099511627776] [1099511627776] 40
  have E3 : Hid (v3 = (w2.alloc (.cells #[.int .u64 1099511627776] 40)).alloc (.cells #[.int .u64 1099511627776] 40)) := e3
  have B5 : Hid (Below w.heap.size w v3) := B4.out.trans (b3.mono B4.out.size)
  have F4 : Hid (Fam v3 g1 o1 2 (lst [11, 14])) := F3.out.below b3 l3
  have l4 : g1 < v3.heap.size := Nat.lt_of_lt_of_le l3 b3.size
  have c3' : Hid _ := c3.out v3 T5 _ _ f3a f3b 2
  clear e3 f3a f3b b3 c3 F3 B4 T4
  go_wp2_with fail
  rw [← E3.out]
  clear E3
  refine Calls.mono (Hid.out c3') ?_; intro e w3 h
  obtain ⟨a3, k3, rfl, b3⟩ := h.zero (q' := 0) (c' := 40) (by decide) (by decide) (by decide)
  have T6 : Tab w3 := T5.below b3 (tab_lt T5)
  have B6 : Hid (Below w.heap.size w w3) := B5.out.trans (b3.mono B5.out.size)
  have F5 : Hid (Fam w3 g1 o1 2 (lst [11, 14])) := F4.out.below b3 l4
  have l5 : g1 < w3.heap.size := Nat.lt_of_lt_of_le l4 b3.size
  clear h b3 c3' B5 T5 F4
  obtain ⟨v8, e8, T15, f8, b8⟩ := one_lit w3 T6 [11, 14] 40
  have E8 : Hid (v8 = w3.alloc (.cells #[.int .u64 11, .int .u64 14] 40)) := e8
  have c11 : Hid _ := same_fam 2 (by decide) g1 o1 k1 w3.heap.size 0 2 _ _ (fun _ _ => rfl) v8 (F5.out.below b8 l5) f8
  have B15 : Hid (Below w.heap.size w v8) := B6.out.trans (b8.mono B6.out.size)
  clear e8 f8 b8 B6 T6 F5
  go_wp2_with fail
  rw [← E8.out]
  clear E8
  refine Calls.mono (Hid.out c11) ?_; rintro e w7 ⟨rfl, q7, hw7⟩
  have B16 : Hid (Below w.heap.size w w7) := by show Below _ _ _; rw [hw7]; exact below_drewN B15.out q7
  clear hw7 c11 B15 T15
  go_wp2_with fail
  refine Calls.mono (c4.out w7) ?_; rintro e w' ⟨rfl, hw'⟩; subst w'
  go_wp2_with fail
  refine Calls.mono (c5.out w7) ?_; rintro e w' ⟨rfl, hw'⟩; subst w'
  go_wp2_with fail
  refine Calls.mono (c6.out w7) ?_; rintro e w' ⟨rfl, hw'⟩; subst w'
  go_wp2_with fail
  refine Calls.mono (c7.out w7) ?_; rintro e w' ⟨rfl, hw'⟩; subst w'
  go_wp2_with fail
  refine Calls.mono (c8.out w7) ?_; rintro e w' ⟨rfl, hw'⟩; subst w'
  go_wp2_with fail
  go_ret
  exact ⟨rfl, B16.out⟩
end Go.Proofs.YtdffofpoilfhiaaDoor
