/- Contract of beaglelaw02.alive: it tells true; nothing that was there turns. -/
import Derived.Test.YtegbkicbmdkpiaaDoorNttCyc
namespace Go.Proofs.YtegbkicbmdkpiaaDoor
open Go.RowKit Res

/-- A list of numbers as a row. -/
def lst (zs : List Int) (t : Nat) : Int := zs.getD t 0
theorem fam_lit (w : World) (zs : List Int) (ty : TypeId) : Fam (w.alloc (.cells (zs.map (Value.int .u64)).toArray ty)) w.heap.size 0 zs.length (lst zs) := by
  intro t ht
  have hb : (w.alloc (.cells (zs.map (Value.int .u64)).toArray ty)).heap[w.heap.size]? = some (.cells (zs.map (Value.int .u64)).toArray ty) := by
    show (w.heap.push _)[w.heap.size]? = _
    simp
  unfold World.cell?
  rw [hb, Nat.zero_add]
  show (zs.map (Value.int .u64)).toArray[t]? = _
  simp [lst, ht]
/-- A new row in the world. -/
theorem lit_facts (w : World) (hT : Tab w) (B : Nat) (hB : B ≤ w.heap.size) (w0 : World) (hb : Below B w0 w) (zs : List Int) (ty : TypeId) :
    ∃ v, v = w.alloc (.cells (zs.map (Value.int .u64)).toArray ty) ∧ Tab v ∧ Fam v w.heap.size 0 zs.length (lst zs) ∧ Below B w0 v ∧ Below w.heap.size w v ∧ w.heap.size < v.heap.size :=
  ⟨_, rfl, hT.alloc _, fam_lit w zs ty, hb.alloc hB _, (Below.refl _ _).alloc (Nat.le_refl _) _, by show _ < (w.heap.push _).size; simp⟩
theorem lst_nonneg {zs : List Int} (h : ∀ z, z ∈ zs → 0 ≤ z) (t : Nat) : 0 ≤ lst zs t := by
  unfold lst
  by_cases ht : t < zs.length
  · rw [List.getD_eq_getElem?_getD, List.getElem?_eq_getElem ht]; exact h _ (List.getElem_mem ht)
  · rw [List.getD_eq_getElem?_getD, List.getElem?_eq_none (by omega)]; simp
theorem rt01 : rt 0 1 = 998244352 := by
  have := three_half 0 (by decide)
  unfold rt
  rw [show (2 : Nat) ^ 1 = 2 by decide, this]; decide
theorem alive_f : ∀ t, t < 2 → dft 0 (rt 0 1) 2 (lst [1, 2]) t = lst [3, 998244352] t := by
  intro t ht
  rw [rt01]
  match t, ht with
  | 0, _ => decide
  | 1, _ => decide
/-- There and back. -/
theorem idft_dft (k : Int) (hp : pr k ≠ 0) (m n : Nat) (hn : n = 2 ^ m) (hm : m ≤ 12) (G : Nat → Int) (t : Nat) (ht : t < n) : idft k m n (dft k (rt k m) n G) t = md k (G t) := by
  subst hn
  exact dft_back k (rt k m) (ivr k m) (ivn k m) hp m (fun e => by subst e; exact rt_zero k hp) (rt_half k hp m hm) (ivr_mul k hp m hm) (ivn_mul k hp m hm) G t ht
theorem dft_scale (k x c : Int) (n : Nat) (G : Nat → Int) (t : Nat) : dft k x n (fun i => md k (G i * c)) t = md k (dft k x n G t * c) := by
  unfold dft
  rw [md_mul_l]
  show Eqm k _ _
  rw [← sm_mul_r]
  refine Eqm.sm fun i _ => ?_
  refine Eqm.trans (Eqm.md.mul Eqm.rfl') (Eqm.of ?_)
  ac_rfl
theorem ivr_zero (k : Int) (hp : pr k ≠ 0) : md k (ivr k 0) = 1 := by
  have h := ivr_mul k hp 0 (by omega)
  have h2 : Eqm k (rt k 0) 1 := by unfold Eqm; rw [rt_zero k hp, md_one hp]
  have h3 : Eqm k (ivr k 0) 1 := (Eqm.of (Int.one_mul _).symm).trans ((h2.symm.mul Eqm.rfl').trans h)
  exact Eq.trans h3 (md_one hp)
theorem dft_idft (k : Int) (hp : pr k ≠ 0) (m n : Nat) (hn : n = 2 ^ m) (hm : m ≤ 12) (G : Nat → Int) (t : Nat) (ht : t < n) : dft k (rt k m) n (idft k m n G) t = md k (G t) := by
  subst hn
  unfold idft
  rw [dft_scale]
  exact dft_back k (ivr k m) (rt k m) (ivn k m) hp m (fun e => by subst e; exact ivr_zero k hp) (ivr_half k hp m hm) ((Eqm.of (Int.mul_comm _ _)).trans (ivr_mul k hp m hm)) (ivn_mul k hp m hm) G t ht
theorem alive_b : ∀ t, t < 2 → idft 0 1 2 (dft 0 (rt 0 1) 2 (lst [1, 2])) t = lst [1, 2] t := by
  intro t ht
  rw [idft_dft 0 (by decide) 1 2 (by decide) (by decide) (lst [1, 2]) t ht]
  match t, ht with
  | 0, _ => decide
  | 1, _ => decide
theorem alive_c : ∀ t, t < 2 → cyc 0 2 (lst [1, 2]) (lst [3, 4]) t = lst [11, 10] t := by
  intro t ht
  match t, ht with
  | 0, _ => decide
  | 1, _ => decide

set_option maxHeartbeats 2000000 in
theorem alive_any (w : World) (hT : Tab w) : Calls Tryd.prog 12 #[] w fun e w' => e = .returned (.bool true) ∧ Below w.heap.size w w' := by
  have i1 : Hid _ := fun (v : World) (hv : Tab v) (b : Nat) (hf : Fam v b 0 2 (lst [1, 2])) => forward_yes 0 (by decide) 1 2 (by decide) (by decide) b 0 2 (lst [1, 2]) (lst_nonneg (by decide)) v hv hf
  have i2 : Hid _ := fun (v : World) (hv : Tab v) (b : Nat) (hf : Fam v b 0 2 (dft 0 (rt 0 1) 2 (lst [1, 2]))) => inverse_yes 0 (by decide) 1 2 (by decide) (by decide) b 0 2 _ (fun t => dft_nonneg _ _ _ _ _) v hv hf
  have i3 : Hid _ := fun (v : World) (hv : Tab v) (a b : Nat) (ha : Fam v a 0 2 (lst [1, 2])) (hb : Fam v b 0 2 (lst [3, 4])) => cyclic_yes 0 (by decide) 1 2 (by decide) (by decide) a 0 2 b 0 2 (lst [1, 2]) (lst [3, 4]) (lst_nonneg (by decide)) (lst_nonneg (by decide)) v hv ha hb
  have hf : Hid _ := alive_f
  have hb : Hid _ := alive_b
  have hc : Hid _ := alive_c
  generalize dft 0 (rt 0 1) 2 (lst [1, 2]) = D at *
  generalize idft 0 1 2 D = E at *
  generalize cyc 0 2 (lst [1, 2]) (lst [3, 4]) = C at *
  have i4 : Hid _ := fun (v : World) (hv : Tab v) => forward_noprime 3 none 0 0 v hv (by decide)
  have i5 : Hid _ := fun (v : World) (hv : Tab v) (ao : Option Addr) => forward_nolen 0 ao 3 3 v hv (by decide) (by intro m hm; match m, hm with | 0, _ => decide | 1, _ => decide | 2, _ => decide | 3, _ => decide | 4, _ => decide | 5, _ => decide | 6, _ => decide | 7, _ => decide | 8, _ => decide | 9, _ => decide | 10, _ => decide | 11, _ => decide | 12, _ => decide)
  have i6 : Hid _ := fun (v : World) => log_yes 8 3 (by decide) (by decide) v
  have i7 : Hid _ := fun (v : World) => log_no 0 (by intro m hm; match m, hm with | 0, _ => decide | 1, _ => decide | 2, _ => decide | 3, _ => decide | 4, _ => decide | 5, _ => decide | 6, _ => decide | 7, _ => decide | 8, _ => decide | 9, _ => decide | 10, _ => decide | 11, _ => decide | 12, _ => decide) v
  have same : Hid _ := fun (a ca b cb : Nat) (G H : Nat → Int) (hGH : ∀ t, t < 2 → G t = H t) (v : World) (ha : Fam v a 0 2 G) (hb : Fam v b 0 2 H) => same_fam 2 (by decide) a 0 ca b 0 cb G H hGH v ha hb
  have h0 := tab_lt hT
  -- f
  obtain ⟨v1, e1, T1, F1, B1, _, _⟩ := lit_facts w hT w.heap.size (Nat.le_refl _) w (Below.refl _ _) [1, 2] 32
  have E1 : Hid (v1 = w.alloc (.cells #[.int .u64 1, .int .u64 2] 32)) := e1
  have F1' : Hid (Fam v1 w.heap.size 0 2 (lst [1, 2])) := F1
  have B1' : Hid _ := B1
  clear e1 F1 B1
  go_enter Tryd.func12, Tryd.ntmps12
  go_wp2_with fail
  rw [← E1.out]
  clear E1
  refine Calls.mono (i1.out v1 T1 _ F1'.out) ?_; rintro e w1 ⟨rfl, f1, _, b1, z1⟩
  have T1' : Tab w1 := T1.below b1 (tab_lt T1)
  have hle1 : w.heap.size ≤ w1.heap.size := Nat.le_trans B1'.out.size b1.size
  have Fd : Hid (Fam w1 v1.heap.size 0 2 D) := f1
  have Bw1 : Hid (Below w.heap.size w w1) := B1'.out.trans (b1.mono B1'.out.size)
  have zf := z1
  clear f1 b1 B1' F1' i1 z1
  -- b
  go_wp2_with fail
  refine Calls.mono (i2.out w1 T1' _ Fd.out) ?_; rintro e w2 ⟨rfl, f2, _, b2, z2⟩
  have T2 : Tab w2 := T1'.below b2 (tab_lt T1')
  have Fe : Hid (Fam w2 w1.heap.size 0 2 E) := f2
  have Fd2 : Hid (Fam w2 v1.heap.size 0 2 D) := Fd.out.below b2 zf
  have Bw2 : Hid (Below w.heap.size w w2) := Bw1.out.trans (b2.mono hle1)
  have hle2 : w1.heap.size ≤ w2.heap.size := b2.size
  clear f2 b2 Fd Bw1 i2
  -- c
  obtain ⟨v3, e3, T3, F3, B3, C3, z3⟩ := lit_facts w2 T2 w.heap.size (by omega) w Bw2.out [1, 2] 32
  obtain ⟨v4, e4, T4, F4, B4, C4, z4⟩ := lit_facts v3 T3 w.heap.size (by omega) w B3 [3, 4] 32
  have E3 : Hid (v3 = w2.alloc (.cells #[.int .u64 1, .int .u64 2] 32)) := e3
  have E4 : Hid (v4 = v3.alloc (.cells #[.int .u64 3, .int .u64 4] 32)) := e4
  have hs3 : Hid (v3.heap.size = w2.heap.size + 1) := by show v3.heap.size = _; rw [e3]; show (w2.heap.push _).size = _; simp
  have F3' : Hid (Fam v4 w2.heap.size 0 2 (lst [1, 2])) := (show Fam v3 w2.heap.size 0 2 (lst [1, 2]) from F3).below C4 z3
  have F4' : Hid (Fam v4 v3.heap.size 0 2 (lst [3, 4])) := F4
  have B4' : Hid (Below w.heap.size w v4) := B4
  have C24 : Hid (Below w2.heap.size w2 v4) := C3.trans (C4.mono C3.size)
  have hs34 : w2.heap.size < v4.heap.size := Nat.lt_trans z3 z4
  clear e3 e4 F3 F4 B3 B4 C3 C4
  go_wp2_with fail
  rw [← hs3.out, ← E3.out, ← E4.out]
  clear E3 E4 hs3
  refine Calls.mono (i3.out v4 T4 _ _ F3'.out F4'.out) ?_; rintro e w5 ⟨g, rfl, hg1, hg2, f5, b5⟩
  have T5 : Tab w5 := T4.below b5 (tab_lt T4)
  have Fc : Hid (Fam w5 g 0 2 C) := f5
  have b25 : Below w2.heap.size w2 w5 := C24.out.trans (b5.mono C24.out.size)
  have Fe5 : Hid (Fam w5 w1.heap.size 0 2 E) := Fe.out.below b25 z2
  have Fd5 : Hid (Fam w5 v1.heap.size 0 2 D) := Fd2.out.below b25 (by omega)
  have Bw5 : Hid (Below w.heap.size w w5) := B4'.out.trans (b5.mono B4'.out.size)
  have hle5 : w.heap.size ≤ w5.heap.size := Bw5.out.size
  have hd5 : v1.heap.size < w5.heap.size := by have := b25.size; omega
  have he5 : w1.heap.size < w5.heap.size := by have := b25.size; omega
  clear f5 b5 b25 Fe Fd2 F3' F4' B4' C24 i3
  go_wp2_with fail
  refine Calls.mono (i4.out w5 T5) ?_; rintro e w' ⟨rfl, hw'⟩; subst w'
  -- three numbers
  obtain ⟨v6, e6, T6, _, B6, C6, z6⟩ := lit_facts w5 T5 w.heap.size hle5 w Bw5.out [1, 2, 3] 32
  have E6 : Hid (v6 = w5.alloc (.cells #[.int .u64 1, .int .u64 2, .int .u64 3] 32)) := e6
  have Bw6 : Hid _ := B6
  have Fc6 : Hid (Fam v6 g 0 2 C) := Fc.out.below C6 hg2
  have Fe6 : Hid (Fam v6 w1.heap.size 0 2 E) := Fe5.out.below C6 he5
  have Fd6 : Hid (Fam v6 v1.heap.size 0 2 D) := Fd5.out.below C6 hd5
  have hle6 : w.heap.size ≤ v6.heap.size := by omega
  have hg6 : g < v6.heap.size := by omega
  have hd6 : v1.heap.size < v6.heap.size := by omega
  have he6 : w1.heap.size < v6.heap.size := by omega
  clear e6 B6 C6 Fc Fe5 Fd5 Bw5
  go_wp2_with fail
  rw [← E6.out]
  clear E6
  refine Calls.mono (i5.out v6 T6 _) ?_; rintro e w' ⟨rfl, hw'⟩; subst w'
  go_wp2_with fail
  refine Calls.mono (i6.out v6) ?_; rintro e w' ⟨rfl, hw'⟩; subst w'
  go_wp2_with fail
  refine Calls.mono (i7.out v6) ?_; rintro e w' ⟨rfl, hw'⟩; subst w'
  -- the three rows
  obtain ⟨v7, e7, T7, F7, B7, C7, z7⟩ := lit_facts v6 T6 w.heap.size hle6 w Bw6.out [3, 998244352] 32
  have E7 : Hid (v7 = v6.alloc (.cells #[.int .u64 3, .int .u64 998244352] 32)) := e7
  have s7 : Hid _ := same.out v1.heap.size 2 v6.heap.size 2 D (lst [3, 998244352]) hf.out v7 (Fd6.out.below C7 hd6) F7
  have Bw7 : Hid _ := B7
  have Fc7 : Hid (Fam v7 g 0 2 C) := Fc6.out.below C7 hg6
  have Fe7 : Hid (Fam v7 w1.heap.size 0 2 E) := Fe6.out.below C7 he6
  have hle7 : w.heap.size ≤ v7.heap.size := by omega
  have hg7 : g < v7.heap.size := by omega
  have he7 : w1.heap.size < v7.heap.size := by omega
  clear e7 B7 C7 F7 Fc6 Fe6 Fd6 Bw6 hg6 he6 hd6
  go_wp2_with fail
  rw [← E7.out]
  clear E7
  refine Calls.mono (Hid.out s7) ?_; rintro e w' ⟨rfl, q, hw'⟩; subst w'
  clear s7
  obtain ⟨v8, e8, T8, F8, B8, C8, z8⟩ := lit_facts (v7.drewN q) T7 w.heap.size hle7 w (below_drewN Bw7.out q) [1, 2] 32
  have E8 : Hid (v8 = (v7.drewN q).alloc (.cells #[.int .u64 1, .int .u64 2] 32)) := e8
  have s8 : Hid _ := same.out w1.heap.size 2 v7.heap.size 2 E (lst [1, 2]) hb.out v8 ((Fe7.out.drewN q).below C8 he7) F8
  have Bw8 : Hid _ := B8
  have Fc8 : Hid (Fam v8 g 0 2 C) := (Fc7.out.drewN q).below C8 hg7
  have z8' : v7.heap.size < v8.heap.size := z8
  have hle8 : w.heap.size ≤ v8.heap.size := by omega
  have hg8 : g < v8.heap.size := by omega
  clear e8 B8 C8 F8 Fc7 Fe7 Bw7 hg7 he7 z8
  go_wp2_with fail
  rw [← E8.out]
  clear E8
  refine Calls.mono (Hid.out s8) ?_; rintro e w' ⟨rfl, q2, hw'⟩; subst w'
  clear s8
  obtain ⟨v9, e9, T9, F9, B9, C9, z9⟩ := lit_facts (v8.drewN q2) T8 w.heap.size hle8 w (below_drewN Bw8.out q2) [11, 10] 32
  have E9 : Hid (v9 = (v8.drewN q2).alloc (.cells #[.int .u64 11, .int .u64 10] 32)) := e9
  have s9 : Hid _ := same.out g 2 v8.heap.size 2 C (lst [11, 10]) hc.out v9 ((Fc8.out.drewN q2).below C9 hg8) F9
  have Bw9 : Hid _ := B9
  clear e9 B9 C9 F9 Fc8 Bw8 hg8 z9
  go_wp2_with fail
  rw [← E9.out]
  clear E9
  refine Calls.mono (Hid.out s9) ?_; rintro e w' ⟨rfl, q3, hw'⟩; subst w'
  clear s9
  go_wp2_with fail
  go_ret
  exact ⟨rfl, below_drewN Bw9.out q3⟩
end Go.Proofs.YtegbkicbmdkpiaaDoor
