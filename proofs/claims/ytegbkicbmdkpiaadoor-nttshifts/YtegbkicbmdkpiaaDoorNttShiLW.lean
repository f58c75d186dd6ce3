/- The walk of 'beaglelaw02.NttShifts': it answers true; nothing that was there is turned. For the statement's proof. -/
import Derived.OpenShut
import Derived.ProofKit
import Derived.Test.YtegbkicbmdkpiaaDoorNttAlive
import Derived.Test.YtegbkicbmdkpiaaDoorSlices
import Derived.Deep.RegionLawGrows
import Derived.Deep.RegionLaw
namespace Go.Proofs.YtegbkicbmdkpiaaDoor.nttShifts
open Go.ChangeShapes Go.WideShapes Go.ChangeAt Go.RowKit Res
set_option linter.unusedVariables false

attribute [local go_sem ↓] Go.wp_at_zero Go.wp_at_succ
theorem log_or (n : Nat) : NoLog n ∨ ∃ m : Nat, m ≤ 12 ∧ n = 2 ^ m := by
  by_cases hn : NoLog n
  · exact Or.inl hn
  · right
    refine Classical.byContradiction fun h => hn fun m hm e => h ⟨m, hm, ?_⟩
    have e' : (n : Int) = ((2 ^ m : Nat) : Int) := by rw [e, Int.natCast_pow]; rfl
    exact Int.ofNat.inj e'
theorem cellsOf_mov (L : Nat → Int) (p : Nat) : [Value.int .u64 (L p)] ++ cellsOf L p = cellsOf (mov (p + 1) L) (p + 1) := by
  apply List.ext_getElem?
  intro i
  cases i with
  | zero => simp [cellsOf, mov]
  | succ i =>
    by_cases h : i < p
    · simp [cellsOf, mov, h]
    · rw [List.getElem?_eq_none (by simp [cellsOf]; omega), List.getElem?_eq_none (by simp [cellsOf]; omega)]
set_option maxHeartbeats 4000000 in
theorem walk (k : Int) (s : Option Addr) (n cap : Nat) (L : Nat → Int) (w : World) (w0 : (Lit.int .i64 k).wf = true) (hl : Sl w s n cap L) (hT : Tab w) :
    Calls Tryd.prog 9 #[.int .i64 k, .slice s n cap] w fun e w' => e = .returned (.bool true) ∧ Below w.heap.size w w' := by
  clear w0
  obtain ⟨i0, hi, hz0, hz1, hz2⟩ := info_parts infoU
  have hroom : n * 8 ≤ 140737488351232 := by have := hl.le; have := hl.room; omega
  have al : Hid _ := alive_any
  by_cases hbig : 4096 < n
  · have al2 : Hid _ := al.out w hT
    clear hl hT
    go_enter Tryd.func9, Tryd.ntmps9
    go_wp2_with fail
    refine Calls.mono (Hid.out al2) ?_; rintro e w8 ⟨rfl, b8⟩
    have B8 : Hid _ := b8
    clear b8
    go_wp2_with fail
    go_ret
    exact ⟨rfl, B8.out⟩
  have hd : decide (4096 < (n : Int)) = false := decide_eq_false (by omega)
  by_cases hnz : n = 0
  · have al2 : Hid _ := al.out w hT
    have hz : ((n : Int) == 0) = true := beq_iff_eq.2 (by omega)
    clear hl hT hnz
    go_enter Tryd.func9, Tryd.ntmps9
    go_wp2_with fail
    refine Calls.mono (Hid.out al2) ?_; rintro e w8 ⟨rfl, b8⟩
    have B8 : Hid _ := b8
    clear b8
    go_wp2_with fail
    go_ret
    exact ⟨rfl, B8.out⟩
  have hz : ((n : Int) == 0) = false := beq_eq_false_iff_ne.2 (by omega)
  have hpos : 0 < n := by omega
  have hL0 := hl.lo
  have hnc : n ≤ cap := hl.le
  obtain ⟨b, o, rfl, hf⟩ := hl.lies hpos
  have hbl : b < w.heap.size := hf.lt hpos
  clear hl hnz
  by_cases hn1 : n = 1
  · subst hn1
    obtain ⟨v1, E1, T1, B1, F1⟩ : ∃ v1, Hid (v1 = w.drew) ∧ Tab v1 ∧ Hid (Below w.heap.size w v1) ∧ Hid (Fam v1 b o 1 L) := ⟨_, rfl, hT, (Below.refl _ _).drew, hf⟩
    have M1 : Hid (Fam v1 b o 1 (mov 1 L)) := F1.out.congr (fun t ht => by have e : t = 0 := (by omega); subst e; rfl)
    have hmb : b < v1.heap.size := by rw [E1.out]; exact hbl
    have hc1 : (1 : Int) ≤ (cap : Int) := by omega
    have ew : IntKind.i64.wrap 0 = 0 := by rw [IntKind.wrap_i64]; omega
    have hc0 : (0 : Int) ≤ (cap : Int) := by omega
    clear hf hT hbl
    go_enter Tryd.func9, Tryd.ntmps9
    go_wp2_with fail
    go_region_law (refine step_append_room (by rfl) (.tmp 33) (.tmp 38) 26 (by rfl) 32 i0 1 Tryd.underlying26 hi hz1 b o 1 1 (by simp [Act.eval, Act.put]) ⟨b, o, none⟩ 0 cap [] (by simp [Act.eval, Act.put]) (by rfl) (by intro j u h; simp at h) (by intro u h; simp at h) (by omega) (by intro j h; simp at h) ?_)
    rw [show w.drew.setCells b (o + 1 * 1) [] = w.drew from rfl, ← E1.out]
    clear E1
    by_cases hp : pr k = 0
    · have c1 : Hid _ := forward_noprime k (some ⟨b, o, none⟩) 1 cap v1 T1 hp
      have c2 : Hid _ := forward_noprime k (some ⟨b, o, none⟩) 1 1 v1 T1 hp
      clear hp
      have al3 : Hid _ := al.out v1 T1
      clear F1 M1
      go_wp2_with fail
      refine Calls.mono (Hid.out c1) ?_; rintro e w' ⟨rfl, hw'⟩; subst w'
      go_wp2_with fail
      refine Calls.mono (Hid.out c2) ?_; rintro e w' ⟨rfl, hw'⟩; subst w'
      go_wp2_with fail
      refine Calls.mono (Hid.out al3) ?_; rintro e w8 ⟨rfl, b8⟩
      have B8 : Hid (Below w.heap.size w w8) := B1.out.trans (b8.mono B1.out.size)
      clear b8
      go_wp2_with fail
      go_ret
      exact ⟨rfl, B8.out⟩
    rcases log_or 1 with hn | ⟨m, hm, hn⟩
    · have c1 : Hid _ := forward_nolen k (some ⟨b, o, none⟩) 1 cap v1 T1 hp hn
      have c2 : Hid _ := forward_nolen k (some ⟨b, o, none⟩) 1 1 v1 T1 hp hn
      clear hp hn
      have al3 : Hid _ := al.out v1 T1
      clear F1 M1
      go_wp2_with fail
      refine Calls.mono (Hid.out c1) ?_; rintro e w' ⟨rfl, hw'⟩; subst w'
      go_wp2_with fail
      refine Calls.mono (Hid.out c2) ?_; rintro e w' ⟨rfl, hw'⟩; subst w'
      go_wp2_with fail
      refine Calls.mono (Hid.out al3) ?_; rintro e w8 ⟨rfl, b8⟩
      have B8 : Hid (Below w.heap.size w w8) := B1.out.trans (b8.mono B1.out.size)
      clear b8
      go_wp2_with fail
      go_ret
      exact ⟨rfl, B8.out⟩
    have c1 : Hid _ := forward_yes k hp m 1 hn hm b o cap L hL0 v1 T1 F1.out
    have c2 : Hid _ := fun (v : World) (hT : Tab v) (hv : Fam v b o 1 (mov 1 L)) => forward_yes k hp m 1 hn hm b o 1 (mov 1 L) (fun t => by unfold mov; split <;> exact hL0 _) v hT hv
    have c3 : Hid _ := fun (v : World) => refLog_yes 1 m hm (pow_cast hn) v
    have c4 : Hid _ := fun (v : World) => refRoot_yes k m v hp (by omega) (by omega)
    rw [Int.toNat_natCast, show md k (3 ^ ((pr k - 1).toNat / 2 ^ m)) = rt k m from rfl] at c4
    have hmv : Hid (∀ t, dft k (rt k m) 1 (mov 1 L) t = md k (dft k (rt k m) 1 L t * md k (rt k m ^ t))) := fun t => dft_mov k (rt k m) 1 hpos (by have := rt_full k hp m hm; rw [← hn] at this; exact this) L t
    have hF0 : ∀ t, 0 ≤ dft k (rt k m) 1 L t := fun t => dft_nonneg _ _ _ _ _
    have hx0 : 0 ≤ rt k m := rt_nonneg _ _
    have hone : Hid (md k 1 = 1) := md_one hp
    clear hp hn
    generalize dft k (rt k m) 1 (mov 1 L) = G at *
    generalize dft k (rt k m) 1 L = F at *
    generalize rt k m = x at *
    go_wp2_with fail
    refine Calls.mono (Hid.out c1) ?_; rintro e w2 ⟨rfl, f2, _, b2, z2⟩
    have T2 : Tab w2 := T1.below b2 (tab_lt T1)
    have FF : Hid (Fam w2 v1.heap.size 0 1 F) := f2
    have B2 : Hid (Below w.heap.size w w2) := B1.out.trans (b2.mono B1.out.size)
    have M2 : Hid (Fam w2 b o 1 (mov 1 L)) := M1.out.below b2 hmb
    have c2' : Hid _ := c2.out w2 T2 M2.out
    clear c1 c2 f2 b2 B1 M1 F1 T1
    go_wp2_with fail
    refine Calls.mono (Hid.out c2') ?_; rintro e w3 ⟨rfl, f3, _, b3, z3⟩
    have T3 : Tab w3 := T2.below b3 (tab_lt T2)
    have FG : Hid (Fam w3 w2.heap.size 0 1 (fun t => md k (F t * md k (x ^ t)))) := f3.congr (fun t _ => hmv.out t)
    have FF3 : Hid (Fam w3 v1.heap.size 0 1 F) := FF.out.below b3 z2
    have B3 : Hid (Below w.heap.size w w3) := B2.out.trans (b3.mono B2.out.size)
    clear c2' f3 b3 B2 M2 T2 FF
    go_wp2_with fail
    refine Calls.mono (c3.out w3) ?_; rintro e w' ⟨rfl, hw'⟩; subst w'
    go_wp2_with fail
    refine Calls.mono (c4.out w3) ?_; rintro e w' ⟨rfl, hw'⟩; subst w'
    clear c3 c4
    go_wp2_with fail
    go_loopw [14, 78] (fun vp vj wx => ∃ j : Nat, j ≤ 1 ∧ vj = .int .i64 j ∧ vp = .int .u64 (md k (x ^ j)) ∧ ∃ q, wx = w3.drewN q) (fun _ vj _ => 1 - (intOf vj).toNat)
    case atStart => exact ⟨0, Nat.zero_le _, rfl, by rw [Int.pow_zero, hone.out], 0, rfl⟩
    case round =>
      obtain ⟨j, hj, rfl, rfl, q, hwx⟩ := hrel
      have HW : Hid (wr = w3.drewN q) := hwx
      by_cases hlt2 : j < 1
      · have hc1 : wr.cell? ⟨v1.heap.size, j, none⟩ = some (.int .u64 (F j)) := by rw [hwx]; exact FF3.out.zero j hlt2
        have hc2 : wr.cell? ⟨w2.heap.size, j, none⟩ = some (.int .u64 (md k (F j * md k (x ^ j)))) := by rw [hwx]; exact FG.out.zero j hlt2
        have hst : Hid (md k (md k (x ^ j) * x) = md k (x ^ (j + 1))) := st_succ k x j
        have hpj := md_nonneg k (x ^ j)
        have hFj := hF0 j
        have hin : (j : Int) < ((1 : Nat) : Int) := by omega
        have hj0 : (0 : Int) ≤ (j : Int) := by omega
        have hdj : decide (((1 : Nat) : Int) ≤ (j : Int)) = false := decide_eq_false (by omega)
        clear hwx
        generalize md k (x ^ j) = y at *
        go_wp2_with fail
        go_quiet ((go_at_call 24; exact Calls.quiet_of_same (refMul_any _ _ _ _ hFj hpj)))
        go_wp2_with fail
        refine Calls.mono (refMul_any k y x _ hpj hx0) ?_; rintro e w' ⟨rfl, hw'⟩; subst w'
        go_wp2_with fail
        go_roundw
        case rel =>
          refine ⟨j + 1, by omega, by go_num, by rw [hst.out], q + nq, ?_⟩
          rw [HW.out]
          exact World.drewN_drewN _ _ _
        case measure => simp [intOf]; omega
      · have T4 : Tab wr := by rw [hwx]; exact T3
        have al3 : Hid _ := al.out wr T4
        have B4 : Hid (Below w.heap.size w wr) := by show Below _ _ _; rw [hwx]; exact below_drewN B3.out q
        clear hwx
        go_wp2_with fail
        refine Calls.mono (Hid.out al3) ?_; rintro e w8 ⟨rfl, b8⟩
        have B8 : Hid (Below w.heap.size w w8) := B4.out.trans (b8.mono B4.out.size)
        clear b8
        go_wp2_with fail
        go_ret
        exact ⟨rfl, B8.out⟩
  · obtain ⟨p, hp⟩ : ∃ p, n = p + 1 := ⟨n - 1, by omega⟩
    have hO : ∀ b', (some (⟨b, o + p, none⟩ : Addr)) = some b' → ∀ j u, [Value.int .u64 (L p)][j]? = some u → w.drew.cell? (b'.add j) = some u := by
      intro b' e j u hj
      cases e
      match j, hj with
      | 0, hj =>
        simp at hj
        subst hj
        rw [add_plain]
        exact hf p (by omega)
    have hN : ∀ j u, (cellsOf L p)[j]? = some u → w.drew.cell? ((⟨b, o, none⟩ : Addr).add j) = some u := by
      intro j u hj
      have hjn : j < p := by
        rcases Nat.lt_or_ge j p with h | h
        · exact h
        · rw [List.getElem?_eq_none (by simp [cellsOf]; omega)] at hj; cases hj
      rw [add_plain]
      simp [cellsOf, hjn] at hj
      rw [← hj]
      exact hf j (by omega)
    have hmv : Hid ([Value.int .u64 (L p)] ++ cellsOf L p = cellsOf (mov n L) n) := by show _ = _; rw [cellsOf_mov, hp]
    have hone : ∀ u, u ∈ cellsOf L p → u.oneCell' = true := by intro u hu; simp [cellsOf] at hu; obtain ⟨_, _, rfl⟩ := hu; rfl
    have hlen : (cellsOf L p).length = p * 1 := by simp [cellsOf]
    have e1 : (n : Int) - 1 = (p : Int) := by omega
    have ew : IntKind.i64.wrap (p : Int) = (p : Int) := by rw [IntKind.wrap_i64]; omega
    have enp : n - p = 1 := by omega
    have enp2 : 1 + p = n := by omega
    have anp : ¬ n = p := by omega
    have a1 : (p : Int) ≤ (n : Int) := by omega
    have a2 : (n : Int) ≤ (cap : Int) := by omega
    have a3 : (0 : Int) ≤ (p : Int) := by omega
    have a4 : (p : Int) ≤ (cap : Int) := by omega
    have a5 : 1 ≤ p := by omega
    have a6 : n ≤ p + 1 := by omega
    have a7 : p + 1 ≤ n := by omega
    have HF : Hid (Fam w b o n L) := hf
    have HN : Hid _ := hN
    have HO : Hid _ := hO
    clear hp hf hN hO
    go_enter Tryd.func9, Tryd.ntmps9
    go_wp2_with fail
    go_region_law (refine step_append_grows (by rfl) (.tmp 33) (.tmp 38) 26 (by rfl) 32 i0 (.int .u64 0) 1 8 Tryd.underlying26 hi hz0 hz1 hz2 (by rfl) (by decide) (some ⟨b, o + p, none⟩) 1 1 [.int .u64 (L p)] (by simp [Act.eval, Act.put]) (by intro h; cases h) (by rfl) HO.out ⟨b, o, none⟩ p cap (cellsOf L p) (by simp [Act.eval, Act.put]) hlen HN.out hone (by omega) (by unfold maxLen; omega) (by omega) ?_; intro v' v1 hown hgrow)
    obtain ⟨T1, B1, F1, g, gc, rfl, hmb, M1⟩ : Tab v1 ∧ Hid (Below w.heap.size w v1) ∧ Hid (Fam v1 b o n L) ∧ ∃ g gc, v' = .slice (some ⟨g, 0, none⟩) n gc ∧ g < v1.heap.size ∧ Hid (Fam v1 g 0 n (mov n L)) := by
      have hb : Below w.heap.size w v1 := (Below.refl w.heap.size w).drew.grown hgrow (Nat.le_refl _) (fun k hk => by cases hk)
      rw [hmv.out, enp2] at hown
      obtain ⟨g, gc, rfl, _, hg2, fg, _⟩ := own_fam (D := mov n L) hown (by omega)
      exact ⟨hT.below hb (tab_lt hT), hb, HF.out.below hb hbl, g, gc, rfl, hg2, fg⟩
    clear hown hgrow HN HO hmv hone hlen HF hT
    by_cases hp : pr k = 0
    · have c1 : Hid _ := forward_noprime k (some ⟨b, o, none⟩) n cap v1 T1 hp
      have c2 : Hid _ := forward_noprime k (some ⟨g, 0, none⟩) n gc v1 T1 hp
      clear hp
      have al3 : Hid _ := al.out v1 T1
      clear F1 M1
      go_wp2_with fail
      refine Calls.mono (Hid.out c1) ?_; rintro e w' ⟨rfl, hw'⟩; subst w'
      go_wp2_with fail
      refine Calls.mono (Hid.out c2) ?_; rintro e w' ⟨rfl, hw'⟩; subst w'
      go_wp2_with fail
      refine Calls.mono (Hid.out al3) ?_; rintro e w8 ⟨rfl, b8⟩
      have B8 : Hid (Below w.heap.size w w8) := B1.out.trans (b8.mono B1.out.size)
      clear b8
      go_wp2_with fail
      go_ret
      exact ⟨rfl, B8.out⟩
    rcases log_or n with hn | ⟨m, hm, hn⟩
    · have c1 : Hid _ := forward_nolen k (some ⟨b, o, none⟩) n cap v1 T1 hp hn
      have c2 : Hid _ := forward_nolen k (some ⟨g, 0, none⟩) n gc v1 T1 hp hn
      clear hp hn
      have al3 : Hid _ := al.out v1 T1
      clear F1 M1
      go_wp2_with fail
      refine Calls.mono (Hid.out c1) ?_; rintro e w' ⟨rfl, hw'⟩; subst w'
      go_wp2_with fail
      refine Calls.mono (Hid.out c2) ?_; rintro e w' ⟨rfl, hw'⟩; subst w'
      go_wp2_with fail
      refine Calls.mono (Hid.out al3) ?_; rintro e w8 ⟨rfl, b8⟩
      have B8 : Hid (Below w.heap.size w w8) := B1.out.trans (b8.mono B1.out.size)
      clear b8
      go_wp2_with fail
      go_ret
      exact ⟨rfl, B8.out⟩
    have c1 : Hid _ := forward_yes k hp m n hn hm b o cap L hL0 v1 T1 F1.out
    have c2 : Hid _ := fun (v : World) (hT : Tab v) (hv : Fam v g 0 n (mov n L)) => forward_yes k hp m n hn hm g 0 gc (mov n L) (fun t => by unfold mov; split <;> exact hL0 _) v hT hv
    have c3 : Hid _ := fun (v : World) => refLog_yes n m hm (pow_cast hn) v
    have c4 : Hid _ := fun (v : World) => refRoot_yes k m v hp (by omega) (by omega)
    rw [Int.toNat_natCast, show md k (3 ^ ((pr k - 1).toNat / 2 ^ m)) = rt k m from rfl] at c4
    have hmv : Hid (∀ t, dft k (rt k m) n (mov n L) t = md k (dft k (rt k m) n L t * md k (rt k m ^ t))) := fun t => dft_mov k (rt k m) n hpos (by have := rt_full k hp m hm; rw [← hn] at this; exact this) L t
    have hF0 : ∀ t, 0 ≤ dft k (rt k m) n L t := fun t => dft_nonneg _ _ _ _ _
    have hx0 : 0 ≤ rt k m := rt_nonneg _ _
    have hone : Hid (md k 1 = 1) := md_one hp
    clear hp hn
    generalize dft k (rt k m) n (mov n L) = G at *
    generalize dft k (rt k m) n L = F at *
    generalize rt k m = x at *
    go_wp2_with fail
    refine Calls.mono (Hid.out c1) ?_; rintro e w2 ⟨rfl, f2, _, b2, z2⟩
    have T2 : Tab w2 := T1.below b2 (tab_lt T1)
    have FF : Hid (Fam w2 v1.heap.size 0 n F) := f2
    have B2 : Hid (Below w.heap.size w w2) := B1.out.trans (b2.mono B1.out.size)
    have M2 : Hid (Fam w2 g 0 n (mov n L)) := M1.out.below b2 hmb
    have c2' : Hid _ := c2.out w2 T2 M2.out
    clear c1 c2 f2 b2 B1 M1 F1 T1
    go_wp2_with fail
    refine Calls.mono (Hid.out c2') ?_; rintro e w3 ⟨rfl, f3, _, b3, z3⟩
    have T3 : Tab w3 := T2.below b3 (tab_lt T2)
    have FG : Hid (Fam w3 w2.heap.size 0 n (fun t => md k (F t * md k (x ^ t)))) := f3.congr (fun t _ => hmv.out t)
    have FF3 : Hid (Fam w3 v1.heap.size 0 n F) := FF.out.below b3 z2
    have B3 : Hid (Below w.heap.size w w3) := B2.out.trans (b3.mono B2.out.size)
    clear c2' f3 b3 B2 M2 T2 FF
    go_wp2_with fail
    refine Calls.mono (c3.out w3) ?_; rintro e w' ⟨rfl, hw'⟩; subst w'
    go_wp2_with fail
    refine Calls.mono (c4.out w3) ?_; rintro e w' ⟨rfl, hw'⟩; subst w'
    clear c3 c4
    go_wp2_with fail
    go_loopw [14, 78] (fun vp vj wx => ∃ j : Nat, j ≤ n ∧ vj = .int .i64 j ∧ vp = .int .u64 (md k (x ^ j)) ∧ ∃ q, wx = w3.drewN q) (fun _ vj _ => n - (intOf vj).toNat)
    case atStart => exact ⟨0, Nat.zero_le _, rfl, by rw [Int.pow_zero, hone.out], 0, rfl⟩
    case round =>
      obtain ⟨j, hj, rfl, rfl, q, hwx⟩ := hrel
      have HW : Hid (wr = w3.drewN q) := hwx
      by_cases hlt2 : j < n
      · have hc1 : wr.cell? ⟨v1.heap.size, j, none⟩ = some (.int .u64 (F j)) := by rw [hwx]; exact FF3.out.zero j hlt2
        have hc2 : wr.cell? ⟨w2.heap.size, j, none⟩ = some (.int .u64 (md k (F j * md k (x ^ j)))) := by rw [hwx]; exact FG.out.zero j hlt2
        have hst : Hid (md k (md k (x ^ j) * x) = md k (x ^ (j + 1))) := st_succ k x j
        have hpj := md_nonneg k (x ^ j)
        have hFj := hF0 j
        have hin : (j : Int) < (n : Int) := by omega
        have hj0 : (0 : Int) ≤ (j : Int) := by omega
        have hdj : decide ((n : Int) ≤ (j : Int)) = false := decide_eq_false (by omega)
        clear hwx
        generalize md k (x ^ j) = y at *
        go_wp2_with fail
        go_quiet ((go_at_call 24; exact Calls.quiet_of_same (refMul_any _ _ _ _ hFj hpj)))
        go_wp2_with fail
        refine Calls.mono (refMul_any k y x _ hpj hx0) ?_; rintro e w' ⟨rfl, hw'⟩; subst w'
        go_wp2_with fail
        go_roundw
        case rel =>
          refine ⟨j + 1, by omega, by go_num, by rw [hst.out], q + nq, ?_⟩
          rw [HW.out]
          exact World.drewN_drewN _ _ _
        case measure => simp [intOf]; omega
      · have T4 : Tab wr := by rw [hwx]; exact T3
        have al3 : Hid _ := al.out wr T4
        have B4 : Hid (Below w.heap.size w wr) := by show Below _ _ _; rw [hwx]; exact below_drewN B3.out q
        clear hwx
        go_wp2_with fail
        refine Calls.mono (Hid.out al3) ?_; rintro e w8 ⟨rfl, b8⟩
        have B8 : Hid (Below w.heap.size w w8) := B4.out.trans (b8.mono B4.out.size)
        clear b8
        go_wp2_with fail
        go_ret
        exact ⟨rfl, B8.out⟩

end Go.Proofs.YtegbkicbmdkpiaaDoor.nttShifts
