/- The walk of 'beaglelaw02.NttBack': it answers true; nothing that was there is turned. For the statement's proof. -/
import Derived.OpenShut
import Derived.ProofKit
import Derived.Test.YtegbkicbmdkpiaaDoorNttAlive
import Derived.Test.YtegbkicbmdkpiaaDoorSlices
import Derived.Laws.AppendOwnNone
namespace Go.Proofs.YtegbkicbmdkpiaaDoor.nttBack
open Go.ChangeShapes Go.WideShapes Go.ChangeAt Go.RowKit Res
set_option linter.unusedVariables false

theorem log_or (n : Nat) : NoLog n ∨ ∃ m : Nat, m ≤ 12 ∧ n = 2 ^ m := by
  by_cases hn : NoLog n
  · exact Or.inl hn
  · right
    refine Classical.byContradiction fun h => hn fun m hm e => h ⟨m, hm, ?_⟩
    have e' : (n : Int) = ((2 ^ m : Nat) : Int) := by rw [e, Int.natCast_pow]; rfl
    exact Int.ofNat.inj e'
theorem nolog_zero : NoLog ((0 : Nat) : Int) := by
  intro m _ e
  have h := two_pow_bd 0 (by omega)
  have h1 : (2 : Int) ^ m = ((2 ^ m : Nat) : Int) := by rw [Int.natCast_pow]; rfl
  have h2 := Nat.one_le_two_pow (n := m)
  omega
theorem grown_facts {w v1 : World} (hT : Tab w) (hg : (w.alloc (.cells #[] 32)).grownBy v1 (Value.ownBlock (.slice (some ⟨w.heap.size, 0, none⟩) 0 0))) : Tab v1 ∧ Below w.heap.size w v1 := by
  have hb : Below w.heap.size w v1 := ((Below.refl w.heap.size w).alloc (Nat.le_refl _) (.cells #[] 32)).grown hg (by show _ ≤ (w.heap.push _).size; simp) (fun k hk => by simp [Value.ownBlock] at hk; omega)
  exact ⟨hT.below hb (tab_lt hT), hb⟩
set_option maxHeartbeats 2000000 in
theorem walk (k : Int) (s : Option Addr) (n cap : Nat) (L : Nat → Int) (w : World) (w0 : (Lit.int .i64 k).wf = true) (hl : Sl w s n cap L) (hT : Tab w) :
    Calls Tryd.prog 6 #[.int .i64 k, .slice s n cap] w fun e w' => e = .returned (.bool true) ∧ Below w.heap.size w w' := by
  clear w0
  obtain ⟨i0, hi, hz0, hz1, hz2⟩ := info_parts infoU
  have hroom : n * 8 ≤ 140737488351232 := by have := hl.le; have := hl.room; omega
  have hown0 : (w.alloc (.cells #[] 32)).ownsRow w.heap.size 32 1 (.slice (some ⟨w.heap.size, 0, none⟩) 0 0) 0 [] := World.ownsRow_lit w #[] 0 (Nat.le_refl _) (by unfold maxLen; omega) rfl
  have al : Hid _ := alive_any
  rcases s with _ | x
  · obtain rfl : cap = 0 := hl.bare rfl
    obtain rfl : n = 0 := by have := hl.le; omega
    have hn : NoLog ((0 : Nat) : Int) := nolog_zero
    by_cases hp : pr k = 0
    · have c1 : Hid _ := fun (v : World) (hv : Tab v) => forward_noprime k none 0 0 v hv hp
      have c2 : Hid _ := fun (v : World) (hv : Tab v) => inverse_noprime k none 0 0 v hv hp
      clear hl hp
      obtain ⟨v1, E1, T1, B1⟩ : ∃ v1, Hid (v1 = w.alloc (.cells #[] 32)) ∧ Tab v1 ∧ Hid (Below w.heap.size w v1) := ⟨_, rfl, hT.alloc _, (Below.refl _ _).alloc (Nat.le_refl _) _⟩
      go_enter Tryd.func6, Tryd.ntmps6
      go_wp2_with (at_builtin; refine wpList_append_own_none rfl _ _ 26 rfl w.heap.size 32 i0 1 Tryd.underlying26 hi _ _ _ rfl hown0 rfl ?_)
      rw [← E1.out]
      clear E1 hown0 hT
      go_wp2_with fail
      refine Calls.mono (Hid.out (c1.out v1 T1)) ?_; rintro e w' ⟨rfl, hw'⟩; subst w'
      go_wp2_with fail
      refine Calls.mono (Hid.out (c2.out v1 T1)) ?_; rintro e w' ⟨rfl, hw'⟩; subst w'
      go_wp2_with fail
      refine Calls.mono (Hid.out (al.out v1 T1)) ?_; rintro e w2 ⟨rfl, hb⟩
      have HB : Hid (Below w.heap.size w w2) := B1.out.trans (hb.mono B1.out.size)
      clear hb
      go_wp2_with fail
      go_ret
      exact ⟨rfl, HB.out⟩
    · have c1 : Hid _ := fun (v : World) (hv : Tab v) => forward_nolen k none 0 0 v hv hp hn
      have c2 : Hid _ := fun (v : World) (hv : Tab v) => inverse_nolen k none 0 0 v hv hp hn
      clear hl hp
      obtain ⟨v1, E1, T1, B1⟩ : ∃ v1, Hid (v1 = w.alloc (.cells #[] 32)) ∧ Tab v1 ∧ Hid (Below w.heap.size w v1) := ⟨_, rfl, hT.alloc _, (Below.refl _ _).alloc (Nat.le_refl _) _⟩
      go_enter Tryd.func6, Tryd.ntmps6
      go_wp2_with (at_builtin; refine wpList_append_own_none rfl _ _ 26 rfl w.heap.size 32 i0 1 Tryd.underlying26 hi _ _ _ rfl hown0 rfl ?_)
      rw [← E1.out]
      clear E1 hown0 hT
      go_wp2_with fail
      refine Calls.mono (Hid.out (c1.out v1 T1)) ?_; rintro e w' ⟨rfl, hw'⟩; subst w'
      go_wp2_with fail
      refine Calls.mono (Hid.out (c2.out v1 T1)) ?_; rintro e w' ⟨rfl, hw'⟩; subst w'
      go_wp2_with fail
      refine Calls.mono (Hid.out (al.out v1 T1)) ?_; rintro e w2 ⟨rfl, hb⟩
      have HB : Hid (Below w.heap.size w w2) := B1.out.trans (hb.mono B1.out.size)
      clear hb
      go_wp2_with fail
      go_ret
      exact ⟨rfl, HB.out⟩
  have hnews : ∀ j u, (cellsOf L n)[j]? = some u → (w.alloc (.cells #[] 32)).cell? (x.add j) = some u := by
    intro j u hj
    have hjn : j < n := by
      rcases Nat.lt_or_ge j n with h | h
      · exact h
      · rw [List.getElem?_eq_none (by simp [cellsOf]; omega)] at hj; cases hj
    obtain ⟨b, o, e, hf⟩ := hl.lies (by omega)
    cases e
    rw [add_plain]
    have := hf.alloc (.cells #[] 32) j hjn
    rw [this]
    simp [cellsOf, hjn] at hj
    rw [hj]
  by_cases hp : pr k = 0
  · have c1 : Hid _ := fun (v : World) (hv : Tab v) => forward_noprime k (some x) n cap v hv hp
    have c2 : Hid _ := fun (v : World) (hv : Tab v) => inverse_noprime k (some x) n cap v hv hp
    clear hl hp
    go_enter Tryd.func6, Tryd.ntmps6
    go_wp2_with (at_builtin; refine wpList_append_own _ rfl _ _ 26 rfl w.heap.size 32 i0 (.int .u64 0) 1 8 Tryd.underlying26 hi hz0 hz1 hz2 rfl (by decide) _ _ _ rfl hown0 x n cap (cellsOf L n) rfl (by simp [cellsOf]) hnews (by intro u hu; simp [cellsOf] at hu; obtain ⟨_, _, rfl⟩ := hu; rfl) (by unfold maxLen; omega) (by omega) (by simp) ?_)
    intro v' v1 hown' hgrow _
    obtain ⟨R1, R2⟩ := grown_facts hT hgrow
    have T1 : Tab v1 := R1
    have B1 : Hid _ := R2
    clear hown' hgrow R1 R2 hnews hown0 hT
    go_wp2_with fail
    refine Calls.mono (Hid.out (c1.out v1 T1)) ?_; rintro e w' ⟨rfl, hw'⟩; subst w'
    go_wp2_with fail
    refine Calls.mono (Hid.out (c2.out v1 T1)) ?_; rintro e w' ⟨rfl, hw'⟩; subst w'
    go_wp2_with fail
    refine Calls.mono (Hid.out (al.out v1 T1)) ?_; rintro e w2 ⟨rfl, hb⟩
    have HB : Hid (Below w.heap.size w w2) := B1.out.trans (hb.mono B1.out.size)
    clear hb
    go_wp2_with fail
    go_ret
    exact ⟨rfl, HB.out⟩
  rcases log_or n with hn | ⟨m, hm, hn⟩
  · have c1 : Hid _ := fun (v : World) (hv : Tab v) => forward_nolen k (some x) n cap v hv hp hn
    have c2 : Hid _ := fun (v : World) (hv : Tab v) => inverse_nolen k (some x) n cap v hv hp hn
    clear hl hp
    go_enter Tryd.func6, Tryd.ntmps6
    go_wp2_with (at_builtin; refine wpList_append_own _ rfl _ _ 26 rfl w.heap.size 32 i0 (.int .u64 0) 1 8 Tryd.underlying26 hi hz0 hz1 hz2 rfl (by decide) _ _ _ rfl hown0 x n cap (cellsOf L n) rfl (by simp [cellsOf]) hnews (by intro u hu; simp [cellsOf] at hu; obtain ⟨_, _, rfl⟩ := hu; rfl) (by unfold maxLen; omega) (by omega) (by simp) ?_)
    intro v' v1 hown' hgrow _
    obtain ⟨R1, R2⟩ := grown_facts hT hgrow
    have T1 : Tab v1 := R1
    have B1 : Hid _ := R2
    clear hown' hgrow R1 R2 hnews hown0 hT
    go_wp2_with fail
    refine Calls.mono (Hid.out (c1.out v1 T1)) ?_; rintro e w' ⟨rfl, hw'⟩; subst w'
    go_wp2_with fail
    refine Calls.mono (Hid.out (c2.out v1 T1)) ?_; rintro e w' ⟨rfl, hw'⟩; subst w'
    go_wp2_with fail
    refine Calls.mono (Hid.out (al.out v1 T1)) ?_; rintro e w2 ⟨rfl, hb⟩
    have HB : Hid (Below w.heap.size w w2) := B1.out.trans (hb.mono B1.out.size)
    clear hb
    go_wp2_with fail
    go_ret
    exact ⟨rfl, HB.out⟩
  have hpos : 1 ≤ n := by rw [hn]; exact Nat.one_le_two_pow
  have hle : n ≤ 4096 := by rw [hn]; exact Nat.pow_le_pow_right (by omega) hm
  obtain ⟨b, o, ex, hf⟩ := hl.lies hpos
  obtain rfl : x = ⟨b, o, none⟩ := Option.some.inj ex
  have hbl : b < w.heap.size := hf.lt (by omega)
  have c1 : Hid _ := fun (v : World) (hT : Tab v) (hv : Fam v b o n L) => forward_yes k hp m n hn hm b o cap L hl.lo v hT hv
  have c2 : Hid _ := fun (v : World) (hT : Tab v) (hv : Fam v b o n L) => inverse_yes k hp m n hn hm b o cap L hl.lo v hT hv
  have c3 : Hid _ := fun (v : World) (hT : Tab v) (g : Nat) (hv : Fam v g 0 n (dft k (rt k m) n L)) => inverse_yes k hp m n hn hm g 0 n _ (fun t => dft_nonneg _ _ _ _ _) v hT hv
  have c4 : Hid _ := fun (v : World) (hT : Tab v) (g : Nat) (hv : Fam v g 0 n (idft k m n L)) => forward_yes k hp m n hn hm g 0 n (idft k m n L) (fun t => md_nonneg _ _) v hT hv
  have e3 : Hid (∀ t, t < n → idft k m n (dft k (rt k m) n L) t = md k (L t)) := fun t ht => idft_dft k hp m n hn hm L t ht
  have e4 : Hid (∀ t, t < n → dft k (rt k m) n (idft k m n L) t = md k (L t)) := fun t ht => dft_idft k hp m n hn hm L t ht
  have hL0 := hl.lo
  have HF : Hid (Fam w b o n L) := hf
  clear hf hl hp hn ex
  generalize idft k m n (dft k (rt k m) n L) = P at *
  generalize dft k (rt k m) n (idft k m n L) = Q at *
  generalize dft k (rt k m) n L = A at *
  generalize idft k m n L = B at *
  go_enter Tryd.func6, Tryd.ntmps6
  go_wp2_with (at_builtin; refine wpList_append_own _ rfl _ _ 26 rfl w.heap.size 32 i0 (.int .u64 0) 1 8 Tryd.underlying26 hi hz0 hz1 hz2 rfl (by decide) _ _ _ rfl hown0 ⟨b, o, none⟩ n cap (cellsOf L n) rfl (by simp [cellsOf]) hnews (by intro u hu; simp [cellsOf] at hu; obtain ⟨_, _, rfl⟩ := hu; rfl) (by unfold maxLen; omega) (by omega) (by simp) ?_)
  intro gv w1 hown' hgrow _
  obtain ⟨T1, b1⟩ := grown_facts hT hgrow
  obtain ⟨g, gc, rfl, hg1, hg2, fg, _⟩ := own_fam (D := L) hown' hpos
  have Fg : Hid (Fam w1 g 0 n L) := fg
  have B1 : Hid (Below w.heap.size w w1) := b1
  have d1 : Hid (Fam w1 b o n L) := HF.out.below b1 hbl
  have hs1 : w.heap.size ≤ w1.heap.size := b1.size
  have c1' : Hid _ := c1.out w1 T1 d1.out
  clear hown' hgrow hnews hown0 hT fg b1 c1 HF
  go_wp2_with fail
  refine Calls.mono (Hid.out c1') ?_; rintro e w2 ⟨rfl, f2, _, b2, z2⟩
  have T2 : Tab w2 := T1.below b2 (tab_lt T1)
  have FA : Hid (Fam w2 w1.heap.size 0 n A) := f2
  have B2 : Hid (Below w.heap.size w w2) := B1.out.trans (b2.mono hs1)
  have d2 : Hid (Fam w2 b o n L) := d1.out.below b2 (by omega)
  have Fg2 : Hid (Fam w2 g 0 n L) := Fg.out.below b2 hg2
  have c2' : Hid _ := c2.out w2 T2 d2.out
  clear f2 b2 c1' c2 B1 d1 Fg T1
  go_wp2_with fail
  refine Calls.mono (Hid.out c2') ?_; rintro e w3 ⟨rfl, f3, _, b3, z3⟩
  have T3 : Tab w3 := T2.below b3 (tab_lt T2)
  have FB : Hid (Fam w3 w2.heap.size 0 n B) := f3
  have FA3 : Hid (Fam w3 w1.heap.size 0 n A) := FA.out.below b3 z2
  have B3 : Hid (Below w.heap.size w w3) := B2.out.trans (b3.mono (by omega))
  have d3 : Hid (Fam w3 b o n L) := d2.out.below b3 (by omega)
  have Fg3 : Hid (Fam w3 g 0 n L) := Fg2.out.below b3 (by omega)
  have c3' : Hid _ := c3.out w3 T3 _ FA3.out
  clear f3 b3 c2' c3 B2 d2 Fg2 T2 FA FA3
  go_wp2_with fail
  refine Calls.mono (Hid.out c3') ?_; rintro e w4 ⟨rfl, f4, _, b4, z4⟩
  have T4 : Tab w4 := T3.below b4 (tab_lt T3)
  have FP : Hid (Fam w4 w3.heap.size 0 n (fun t => md k (L t))) := f4.congr e3.out
  have FB4 : Hid (Fam w4 w2.heap.size 0 n B) := FB.out.below b4 z3
  have B4 : Hid (Below w.heap.size w w4) := B3.out.trans (b4.mono (by omega))
  have d4 : Hid (Fam w4 b o n L) := d3.out.below b4 (by omega)
  have Fg4 : Hid (Fam w4 g 0 n L) := Fg3.out.below b4 (by omega)
  have c4' : Hid _ := c4.out w4 T4 _ FB4.out
  clear f4 b4 c3' c4 B3 d3 Fg3 T3 FB FB4
  go_wp2_with fail
  refine Calls.mono (Hid.out c4') ?_; rintro e w5 ⟨rfl, f5, _, b5, z5⟩
  have T5 : Tab w5 := T4.below b5 (tab_lt T4)
  have FQ : Hid (Fam w5 w4.heap.size 0 n (fun t => md k (L t))) := f5.congr e4.out
  have FP5 : Hid (Fam w5 w3.heap.size 0 n (fun t => md k (L t))) := FP.out.below b5 z4
  have B5 : Hid (Below w.heap.size w w5) := B4.out.trans (b5.mono (by omega))
  have d5 : Hid (Fam w5 b o n L) := d4.out.below b5 (by omega)
  have Fg5 : Hid (Fam w5 g 0 n L) := Fg4.out.below b5 (by omega)
  have hg5 : g < w5.heap.size := by omega
  have hb5 : b < w5.heap.size := by omega
  clear f5 b5 c4' B4 d4 Fg4 T4 FP
  have hself : ((n : Int) == (n : Int)) = true := beq_iff_eq.2 rfl
  go_wp2_with fail
  go_loopw [84] (fun vi wx => ∃ i : Nat, i ≤ n ∧ vi = .int .i64 i ∧ ∃ q, wx = w5.drewN q) (fun vi _ => n - (intOf vi).toNat)
  case atStart => exact ⟨0, Nat.zero_le _, rfl, 0, rfl⟩
  case round =>
    obtain ⟨i, hi, rfl, q, hwx⟩ := hrel
    have HW : Hid (wr = w5.drewN q) := hwx
    by_cases hlt2 : i < n
    · have hc1 : wr.cell? ⟨w3.heap.size, i, none⟩ = some (.int .u64 (md k (L i))) := by rw [hwx]; exact FP5.out.zero i hlt2
      have hc2 : wr.cell? ⟨w4.heap.size, i, none⟩ = some (.int .u64 (md k (L i))) := by rw [hwx]; exact FQ.out.zero i hlt2
      have hc3 : wr.cell? ⟨b, o + i, none⟩ = some (.int .u64 (L i)) := by rw [hwx]; exact d5.out i hlt2
      have hLi := hL0 i
      have hof : Hid _ := refOf_any k (L i)
      have hin : (i : Int) < (n : Int) := by omega
      have hi0 : (0 : Int) ≤ (i : Int) := by omega
      clear hwx
      generalize md k (L i) = y at *
      have hyy : (y == y) = true := beq_iff_eq.2 rfl
      go_wp2_with fail
      go_quiet ((go_at_call 18; exact Calls.quiet_of_same (hof.out _ hLi)))
      go_wp2_with fail
      go_roundw
      case rel =>
        refine ⟨i + 1, by omega, by go_num, q + nq, ?_⟩
        rw [HW.out]
        exact World.drewN_drewN _ _ _
      case measure => simp [intOf]; omega
    · have T6 : Tab wr := by rw [hwx]; exact T5
      have al2 : Hid _ := al.out wr T6
      have B6 : Hid (Below w.heap.size w wr) := by show Below _ _ _; rw [hwx]; exact below_drewN B5.out q
      have d6 : Hid (Fam wr b o n L) := by show Fam _ _ _ _ _; rw [hwx]; exact d5.out
      have Fg6 : Hid (Fam wr g 0 n L) := by show Fam _ _ _ _ _; rw [hwx]; exact Fg5.out
      have hsz : w5.heap.size ≤ wr.heap.size := by rw [hwx]; exact Nat.le_refl _
      clear hwx
      go_wp2_with fail
      refine Calls.mono (Hid.out al2) ?_; rintro e w8 ⟨rfl, b8⟩
      have B8 : Hid (Below w.heap.size w w8) := B6.out.trans (b8.mono (by omega))
      have c8 : Hid _ := same_fam n (by omega) b o cap g 0 gc L L (fun _ _ => rfl) w8 (d6.out.below b8 (by omega)) (Fg6.out.below b8 (by omega))
      clear b8
      go_wp2_with fail
      refine Calls.mono (Hid.out c8) ?_; rintro e w' ⟨rfl, q2, hw'⟩; subst w'
      go_wp2_with fail
      go_ret
      exact ⟨rfl, below_drewN B8.out q2⟩

end Go.Proofs.YtegbkicbmdkpiaaDoor.nttBack
