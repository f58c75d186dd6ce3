/- The walk of 'beaglelaw02.NttSums': it answers true; nothing that was there is turned. For the statement's proof. -/
import Derived.OpenShut
import Derived.ProofKit
import Derived.Test.YtegbkicbmdkpiaaDoorNttAlive
import Derived.Test.YtegbkicbmdkpiaaDoorSlices
import Derived.Test.YtegbkicbmdkpiaaDoorOwnTwo
import Derived.Test.YtegbkicbmdkpiaaDoorArr
namespace Go.Proofs.YtegbkicbmdkpiaaDoor.nttSums
open Go.ChangeShapes Go.WideShapes Go.ChangeAt Go.RowKit Res
set_option linter.unusedVariables false

theorem log_or (n : Nat) : NoLog n ∨ ∃ m : Nat, m ≤ 12 ∧ n = 2 ^ m := by
  by_cases hn : NoLog n
  · exact Or.inl hn
  · right
    refine Classical.byContradiction fun h => hn fun m hm e => h ⟨m, hm, ?_⟩
    have e' : (n : Int) = ((2 ^ m : Nat) : Int) := by rw [e, Int.natCast_pow]; rfl
    exact Int.ofNat.inj e'
set_option maxHeartbeats 2000000 in
theorem walk (k : Int) (s : Option Addr) (n cap : Nat) (L : Nat → Int) (z0 z1 : Int) (w : World) (w0 : (Lit.int .i64 k).wf = true) (hl : Sl w s n cap L) (wz0 : (Lit.int .u64 z0).wf = true) (wz1 : (Lit.int .u64 z1).wf = true) (hT : Tab w) :
    Calls Tryd.prog 8 #[.int .i64 k, .slice s n cap, .agg #[.int .u64 z0, .int .u64 z1]] w fun e w' => e = .returned (.bool true) ∧ Below w.heap.size w w' := by
  obtain ⟨hz00, hz01⟩ := bounds_u64 wz0
  obtain ⟨hz10, hz11⟩ := bounds_u64 wz1
  clear w0 wz0 wz1
  obtain ⟨i0, hi, hz0, hz1, hz2⟩ := info_parts infoU
  have hroom : n * 8 ≤ 140737488351232 := by have := hl.le; have := hl.room; omega
  have al : Hid _ := alive_any
  obtain ⟨w1, E1, T1, B1, hc0, hc1, hs1⟩ : ∃ w1, Hid (w1 = w.alloc (.cells #[.int .u64 z0, .int .u64 z1] 37)) ∧ Tab w1 ∧ Hid (Below w.heap.size w w1) ∧ w1.cell? ⟨w.heap.size, 0, none⟩ = some (.int .u64 z0) ∧ w1.cell? ⟨w.heap.size, 1, none⟩ = some (.int .u64 z1) ∧ w.heap.size < w1.heap.size :=
    ⟨_, rfl, hT.alloc _, (Below.refl _ _).alloc (Nat.le_refl _) _, cell_box0 _ _ _ _, cell_box1 _ _ _ _, by rw [size_alloc]; omega⟩
  by_cases hbig : 4096 < n
  · have al2 : Hid _ := al.out w1 T1
    clear hl hT T1
    go_enter Tryd.func8, Tryd.ntmps8
    go_wp2_with fail
    rw [← E1.out]
    refine Calls.mono (Hid.out al2) ?_; rintro e w8 ⟨rfl, b8⟩
    have B8 : Hid (Below w.heap.size w w8) := B1.out.trans (b8.mono (by omega))
    clear b8
    go_wp2_with fail
    go_ret
    exact ⟨rfl, B8.out⟩
  obtain ⟨A, hA⟩ : ∃ A : Nat → Int, ∀ t, A t = md k (z0 * t) := ⟨_, fun _ => rfl⟩
  obtain ⟨D, hD⟩ : ∃ D : Nat → Int, ∀ t, D t = md k (L t + md k (A t * z1)) := ⟨_, fun _ => rfl⟩
  have HA : Hid _ := hA
  have HD : Hid _ := hD
  have hA0 : ∀ t, 0 ≤ A t := fun t => by rw [hA]; exact md_nonneg _ _
  have hD0 : ∀ t, 0 ≤ D t := fun t => by rw [hD]; exact md_nonneg _ _
  have hL0 := hl.lo
  have P0 : Hid (Pair w1.heap.size w1 w1 (.slice none 0 0) (.slice none 0 0) 0 0 A D) := ⟨own_nil _ _ _, own_nil _ _ _, fun g h => by simp [Value.ownBlock] at h, Below.refl _ _, Nat.le_refl _⟩
  have hcl : 1 ≤ n → ∃ b o, s = some ⟨b, o, none⟩ ∧ b < w.heap.size ∧ Fam w1 b o n L := fun hn => by
    obtain ⟨b, o, e, hf⟩ := hl.lies hn
    exact ⟨b, o, e, hf.lt (by omega), hf.below B1.out (hf.lt (by omega))⟩
  have HC : Hid _ := hcl
  clear hA hD hcl hT
  go_enter Tryd.func8, Tryd.ntmps8
  go_wp2_with fail
  rw [← E1.out]
  clear E1
  go_loopw [7, 8, 25] (fun va vb vi wr => ∃ i : Nat, i ≤ n ∧ vi = .int .i64 i ∧ Pair w1.heap.size w1 wr va vb i i A D) (fun _ _ vi _ => n - (intOf vi).toNat)
  case atStart => exact ⟨0, Nat.zero_le _, rfl, P0.out⟩
  case round =>
    obtain ⟨i, hile, rfl, hP⟩ := hrel
    have HP : Hid _ := hP
    have Tr : Tab wr := T1.below hP.bel (tab_lt T1)
    have hzc0 : wr.cell? ⟨w.heap.size, 0, none⟩ = some (.int .u64 z0) := (hP.bel.cell (p := ⟨w.heap.size, 0, none⟩) hs1).trans hc0
    have hzc1 : wr.cell? ⟨w.heap.size, 1, none⟩ = some (.int .u64 z1) := (hP.bel.cell (p := ⟨w.heap.size, 1, none⟩) hs1).trans hc1
    have hsz : w1.heap.size ≤ wr.heap.size := hP.le
    by_cases hlt : i < n
    · obtain ⟨b, o, rfl, hbl, hf⟩ := HC.out (by omega)
      have hcx : wr.cell? ⟨b, o + i, none⟩ = some (.int .u64 (L i)) := (hP.bel.cell (p := ⟨b, o + i, none⟩) (by show b < _; omega)).trans (hf i hlt)
      have hLi := hL0 i
      have hAi : Hid (md k (z0 * (i : Int)) = A i) := (HA.out i).symm
      have hDi : Hid (md k (L i + md k (A i * z1)) = D i) := (HD.out i).symm
      have hA0i := hA0 i
      have hoa := hP.oa
      unfold Own at hoa
      have c1 : Hid _ := mul_any k z0 (i : Int) wr Tr hz00 (by omega)
      rw [hAi.out] at c1
      clear hP hf
      go_wp2_with fail
      refine Calls.mono (Hid.out c1) ?_; rintro e w' ⟨rfl, hw'⟩; subst w'
      go_wp2_with (at_builtin; refine wpList_append_own_at _ rfl _ _ 26 rfl w1.heap.size 32 i0 (.int .u64 0) 1 8 Tryd.underlying26 hi hz0 hz1 hz2 rfl (by decide) _ _ _ rfl (hoa.alloc _) ⟨wr.heap.size, 0, none⟩ 1 1 [.int .u64 (A i)] rfl rfl (cell_one_new _ _ _) (by intro u hu; simp at hu; subst hu; rfl) (by unfold maxLen; omega) (by omega) (by simp; omega) ?_)
      intro va' wa hown' hgrow _ hat
      have hP2 := HP.out.a rfl hown' hgrow hat
      have HP2 : Hid _ := hP2
      have Ta : Tab wa := T1.below hP2.bel (tab_lt T1)
      have hzc1' : wa.cell? ⟨w.heap.size, 1, none⟩ = some (.int .u64 z1) := (hP2.bel.cell (p := ⟨w.heap.size, 1, none⟩) hs1).trans hc1
      have hsza : w1.heap.size ≤ wa.heap.size := hP2.le
      have hob := hP2.ob
      unfold Own at hob
      have hm0 := md_nonneg k (A i * z1)
      have c2 : Hid _ := mul_any k (A i) z1 wa Ta hA0i hz10
      have c3 : Hid _ := add_any k (L i) (md k (A i * z1)) wa Ta hLi hm0
      rw [hDi.out] at c3
      clear hown' hgrow hat hP2 HP hoa c1 hzc0 hzc1 hcx Tr
      go_wp2_with fail
      refine Calls.mono (Hid.out c2) ?_; rintro e w' ⟨rfl, hw'⟩; subst w'
      go_wp2_with fail
      refine Calls.mono (Hid.out c3) ?_; rintro e w' ⟨rfl, hw'⟩; subst w'
      go_wp2_with (at_builtin; refine wpList_append_own_at _ rfl _ _ 26 rfl w1.heap.size 32 i0 (.int .u64 0) 1 8 Tryd.underlying26 hi hz0 hz1 hz2 rfl (by decide) _ _ _ rfl (hob.alloc _) ⟨wa.heap.size, 0, none⟩ 1 1 [.int .u64 (D i)] rfl rfl (cell_one_new _ _ _) (by intro u hu; simp at hu; subst hu; rfl) (by unfold maxLen; omega) (by omega) (by simp; omega) ?_)
      intro vb' wb hown' hgrow _ hat
      have HP3 : Hid _ := HP2.out.b rfl hown' hgrow hat
      clear hown' hgrow hat HP2 hob c2 c3 hzc1' Ta
      go_wp2_with fail
      go_roundw
      case rel => exact ⟨i + 1, by omega, by go_num, HP3.out⟩
      case measure => simp [intOf]; omega
    · obtain rfl : i = n := by omega
      have B3 : Hid (Below w.heap.size w wr) := B1.out.trans (hP.bel.mono (by omega))
      obtain ⟨ao1, cc1, e1⟩ := own_slice hP.oa
      obtain ⟨ao2, cc2, e2⟩ := own_slice hP.ob
      by_cases hp : pr k = 0
      · subst e1 e2
        clear hP HP
        have c1 : Hid _ := forward_noprime k s i cap wr Tr hp
        have c2 : Hid _ := forward_noprime k ao1 i cc1 wr Tr hp
        have c3 : Hid _ := forward_noprime k ao2 i cc2 wr Tr hp
        have al2 : Hid _ := al.out wr Tr
        clear hl
        go_wp2_with fail
        refine Calls.mono (Hid.out c1) ?_; rintro e w' ⟨rfl, hw'⟩; subst w'
        go_wp2_with fail
        refine Calls.mono (Hid.out c2) ?_; rintro e w' ⟨rfl, hw'⟩; subst w'
        go_wp2_with fail
        refine Calls.mono (Hid.out c3) ?_; rintro e w' ⟨rfl, hw'⟩; subst w'
        go_wp2_with fail
        refine Calls.mono (Hid.out al2) ?_; rintro e w8 ⟨rfl, b8⟩
        have B8 : Hid (Below w.heap.size w w8) := B3.out.trans (b8.mono B3.out.size)
        clear b8
        go_wp2_with fail
        go_ret
        exact ⟨rfl, B8.out⟩
      rcases log_or i with hn | ⟨m, hm, hn⟩
      · subst e1 e2
        clear hP HP
        have c1 : Hid _ := forward_nolen k s i cap wr Tr hp hn
        have c2 : Hid _ := forward_nolen k ao1 i cc1 wr Tr hp hn
        have c3 : Hid _ := forward_nolen k ao2 i cc2 wr Tr hp hn
        have al2 : Hid _ := al.out wr Tr
        clear hl
        go_wp2_with fail
        refine Calls.mono (Hid.out c1) ?_; rintro e w' ⟨rfl, hw'⟩; subst w'
        go_wp2_with fail
        refine Calls.mono (Hid.out c2) ?_; rintro e w' ⟨rfl, hw'⟩; subst w'
        go_wp2_with fail
        refine Calls.mono (Hid.out c3) ?_; rintro e w' ⟨rfl, hw'⟩; subst w'
        go_wp2_with fail
        refine Calls.mono (Hid.out al2) ?_; rintro e w8 ⟨rfl, b8⟩
        have B8 : Hid (Below w.heap.size w w8) := B3.out.trans (b8.mono B3.out.size)
        clear b8
        go_wp2_with fail
        go_ret
        exact ⟨rfl, B8.out⟩
      clear e1 e2
      have hpos : 1 ≤ i := by rw [hn]; exact Nat.one_le_two_pow
      obtain ⟨b, o, rfl, hbl, hf⟩ := HC.out hpos
      obtain ⟨ga, ca, rfl, hga1, hga2, fa, _⟩ := own_fam hP.oa hpos
      obtain ⟨gb, cb, rfl, hgb1, hgb2, fb, _⟩ := own_fam hP.ob hpos
      have FA : Hid (Fam wr ga 0 i A) := fa
      have FB : Hid (Fam wr gb 0 i D) := fb
      have FL : Hid (Fam wr b o i L) := hf.below hP.bel (by omega)
      have c1 : Hid _ := forward_yes k hp m i hn hm b o cap L hL0 wr Tr FL.out
      have c2 : Hid _ := fun (v : World) (hT : Tab v) (hv : Fam v ga 0 i A) => forward_yes k hp m i hn hm ga 0 ca A hA0 v hT hv
      have c3 : Hid _ := fun (v : World) (hT : Tab v) (hv : Fam v gb 0 i D) => forward_yes k hp m i hn hm gb 0 cb D hD0 v hT hv
      have hlin : Hid (∀ t, dft k (rt k m) i D t = md k (dft k (rt k m) i L t + md k (dft k (rt k m) i A t * z1))) := fun t => by
        rw [← dft_lin k (rt k m) z1 i L A t]
        exact dft_congr Eqm.rfl' (fun j _ => Eqm.of (HD.out j))
      have hF0 : ∀ t, 0 ≤ dft k (rt k m) i L t := fun t => dft_nonneg _ _ _ _ _
      have hG0 : ∀ t, 0 ≤ dft k (rt k m) i A t := fun t => dft_nonneg _ _ _ _ _
      clear hP HP hf fa fb hp hn HC HA HD P0 hA0 hD0
      generalize dft k (rt k m) i D = H at *
      generalize dft k (rt k m) i L = F at *
      generalize dft k (rt k m) i A = G at *
      go_wp2_with fail
      refine Calls.mono (Hid.out c1) ?_; rintro e w4 ⟨rfl, f4, _, b4, z4⟩
      have T4 : Tab w4 := Tr.below b4 (tab_lt Tr)
      have FF : Hid (Fam w4 wr.heap.size 0 i F) := f4
      have B4 : Hid (Below w.heap.size w w4) := B3.out.trans (b4.mono (by omega))
      have FA4 : Hid (Fam w4 ga 0 i A) := FA.out.below b4 hga2
      have FB4 : Hid (Fam w4 gb 0 i D) := FB.out.below b4 hgb2
      have hz4 : w4.cell? ⟨w.heap.size, 1, none⟩ = some (.int .u64 z1) := (b4.cell (p := ⟨w.heap.size, 1, none⟩) (by show w.heap.size < _; omega)).trans hzc1
      have c2' : Hid _ := c2.out w4 T4 FA4.out
      clear c1 c2 f4 b4 B3 FA FB FL Tr hzc0 hzc1
      go_wp2_with fail
      refine Calls.mono (Hid.out c2') ?_; rintro e w5 ⟨rfl, f5, _, b5, z5⟩
      have T5 : Tab w5 := T4.below b5 (tab_lt T4)
      have FG : Hid (Fam w5 w4.heap.size 0 i G) := f5
      have FF5 : Hid (Fam w5 wr.heap.size 0 i F) := FF.out.below b5 z4
      have B5 : Hid (Below w.heap.size w w5) := B4.out.trans (b5.mono (by omega))
      have FB5 : Hid (Fam w5 gb 0 i D) := FB4.out.below b5 (by omega)
      have hz5 : w5.cell? ⟨w.heap.size, 1, none⟩ = some (.int .u64 z1) := (b5.cell (p := ⟨w.heap.size, 1, none⟩) (by show w.heap.size < _; omega)).trans hz4
      have c3' : Hid _ := c3.out w5 T5 FB5.out
      clear c2' c3 f5 b5 B4 FA4 FB4 T4 hz4 FF
      go_wp2_with fail
      refine Calls.mono (Hid.out c3') ?_; rintro e w6 ⟨rfl, f6, _, b6, z6⟩
      have T6 : Tab w6 := T5.below b6 (tab_lt T5)
      have FH : Hid (Fam w6 w5.heap.size 0 i (fun t => md k (F t + md k (G t * z1)))) := f6.congr (fun t _ => hlin.out t)
      have FG6 : Hid (Fam w6 w4.heap.size 0 i G) := FG.out.below b6 z5
      have FF6 : Hid (Fam w6 wr.heap.size 0 i F) := FF5.out.below b6 (by omega)
      have B6 : Hid (Below w.heap.size w w6) := B5.out.trans (b6.mono (by omega))
      have hz6 : w6.cell? ⟨w.heap.size, 1, none⟩ = some (.int .u64 z1) := (b6.cell (p := ⟨w.heap.size, 1, none⟩) (by show w.heap.size < _; omega)).trans hz5
      clear c3' f6 b6 B5 FB5 T5 hz5 FF5 FG hlin
      have Hz6 : Hid _ := hz6
      clear hz6
      have hself : ((i : Int) == (i : Int)) = true := beq_iff_eq.2 rfl
      obtain ⟨R, hR⟩ : ∃ R, R = wr.heap.size := ⟨_, rfl⟩
      rw [← hR] at FF6
      rw [← hR]
      clear hR
      go_wp2_with fail
      go_loopw [94] (fun vj wx => ∃ j : Nat, j ≤ i ∧ vj = .int .i64 j ∧ ∃ q, wx = w6.drewN q) (fun vj _ => i - (intOf vj).toNat)
      case atStart => exact ⟨0, Nat.zero_le _, rfl, 0, rfl⟩
      case round =>
        obtain ⟨j, hj, rfl, q, hwx⟩ := hrel
        have HW : Hid (wr = w6.drewN q) := hwx
        have T7 : Tab wr := by rw [hwx]; exact T6
        by_cases hlt2 : j < i
        · have hc1 : wr.cell? ⟨w5.heap.size, j, none⟩ = some (.int .u64 (md k (F j + md k (G j * z1)))) := by rw [hwx]; exact FH.out.zero j hlt2
          have hc2 : wr.cell? ⟨R, j, none⟩ = some (.int .u64 (F j)) := by rw [hwx]; exact FF6.out.zero j hlt2
          have hc3 : wr.cell? ⟨w4.heap.size, j, none⟩ = some (.int .u64 (G j)) := by rw [hwx]; exact FG6.out.zero j hlt2
          have hc4 : wr.cell? ⟨w.heap.size, 1, none⟩ = some (.int .u64 z1) := by rw [hwx]; exact Hz6.out
          have hFj := hF0 j
          have hGj := hG0 j
          have hm0 := md_nonneg k (G j * z1)
          have hin : (j : Int) < (i : Int) := by omega
          have hj0 : (0 : Int) ≤ (j : Int) := by omega
          clear hwx
          go_wp2_with fail
          go_quiet ((first | (go_at_call 21; exact Calls.quiet_of_same (mul_any _ _ _ _ T7 hGj hz10)) | (go_at_call 22; exact Calls.quiet_of_same (add_any _ _ _ _ T7 hFj hm0))))
          go_wp2_with fail
          go_roundw
          case rel =>
            refine ⟨j + 1, by omega, by go_num, q + nq, ?_⟩
            rw [HW.out]
            exact World.drewN_drewN _ _ _
          case measure => simp [intOf]; omega
        · have al2 : Hid _ := al.out wr T7
          have B7 : Hid (Below w.heap.size w wr) := by show Below _ _ _; rw [hwx]; exact below_drewN B6.out q
          clear hwx
          go_wp2_with fail
          refine Calls.mono (Hid.out al2) ?_; rintro e w8 ⟨rfl, b8⟩
          have B8 : Hid (Below w.heap.size w w8) := B7.out.trans (b8.mono B7.out.size)
          clear b8
          go_wp2_with fail
          go_ret
          exact ⟨rfl, B8.out⟩

end Go.Proofs.YtegbkicbmdkpiaaDoor.nttSums
