/- The walk of 'beaglelaw02.NttCyclic': it answers true; nothing that was there is turned. For the statement's proof. -/
import Derived.OpenShut
import Derived.ProofKit
import Derived.Test.YtegbkicbmdkpiaaDoorNttAlive
import Derived.Test.YtegbkicbmdkpiaaDoorSlices
namespace Go.Proofs.YtegbkicbmdkpiaaDoor.nttCyclic
open Go.ChangeShapes Go.WideShapes Go.ChangeAt Go.RowKit Res
set_option linter.unusedVariables false

theorem log_or (n : Nat) : NoLog n ∨ ∃ m : Nat, m ≤ 12 ∧ n = 2 ^ m := by
  by_cases hn : NoLog n
  · exact Or.inl hn
  · right
    refine Classical.byContradiction fun h => hn fun m hm e => h ⟨m, hm, ?_⟩
    have e' : (n : Int) = ((2 ^ m : Nat) : Int) := by rw [e, Int.natCast_pow]; rfl
    exact Int.ofNat.inj e'
set_option maxHeartbeats 2000000 in
theorem walk (k : Int) (s : Option Addr) (n cap : Nat) (L : Nat → Int) (s2 : Option Addr) (n2 cap2 : Nat) (L2 : Nat → Int) (w : World) (w0 : (Lit.int .i64 k).wf = true) (hl : Sl w s n cap L) (hl2 : Sl w s2 n2 cap2 L2) (hT : Tab w) :
    Calls Tryd.prog 7 #[.int .i64 k, .slice s n cap, .slice s2 n2 cap2] w fun e w' => e = .returned (.bool true) ∧ Below w.heap.size w w' := by
  clear w0
  have hroom : n * 8 ≤ 140737488351232 := by have := hl.le; have := hl.room; omega
  have hroom2 : n2 * 8 ≤ 140737488351232 := by have := hl2.le; have := hl2.room; omega
  by_cases hbig : 200 < n
  · have al : Hid _ := alive_any w hT
    clear hl hl2 hT
    go_enter Tryd.func7, Tryd.ntmps7
    go_wp2_with fail
    refine Calls.mono (Hid.out al) ?_; rintro e w1 ⟨rfl, hb⟩
    have HB : Hid _ := hb
    clear hb
    go_wp2_with fail
    go_ret
    exact ⟨rfl, HB.out⟩
  by_cases hbig2 : 200 < n2
  · have al : Hid _ := alive_any w hT
    have hd : decide (200 < (n : Int)) = false := decide_eq_false (by omega)
    clear hl hl2 hT
    go_enter Tryd.func7, Tryd.ntmps7
    go_wp2_with fail
    refine Calls.mono (Hid.out al) ?_; rintro e w1 ⟨rfl, hb⟩
    have HB : Hid _ := hb
    clear hb
    go_wp2_with fail
    go_ret
    exact ⟨rfl, HB.out⟩
  have hd : decide (200 < (n : Int)) = false := decide_eq_false (by omega)
  have al : Hid _ := alive_any
  by_cases hp : pr k = 0
  · have c1 : Hid _ := cyclic_noprime k s n cap (.slice s2 n2 cap2) w hT hp
    have c2 : Hid _ := refCyclic_noprime k s n cap (.slice s2 n2 cap2) w hp
    clear hl hl2 hp
    go_enter Tryd.func7, Tryd.ntmps7
    go_wp2_with fail
    refine Calls.mono (Hid.out c1) ?_; rintro e w' ⟨rfl, hw'⟩; subst w'
    go_wp2_with fail
    refine Calls.mono (Hid.out c2) ?_; rintro e w' ⟨rfl, hw'⟩; subst w'
    go_wp2_with fail
    refine Calls.mono (same_nil _ _ _ _ _) ?_; rintro e w' ⟨rfl, q, hw'⟩; subst w'
    go_wp2_with fail
    refine Calls.mono (Hid.out (al.out (w.drewN q) hT)) ?_; rintro e w1 ⟨rfl, hb⟩
    have HB : Hid (Below w.heap.size w w1) := ⟨hb.os, hb.tape, hb.output, hb.size, hb.block⟩
    clear hb
    go_wp2_with fail
    go_ret
    exact ⟨rfl, HB.out⟩
  rcases log_or n with hn | ⟨m, hm, hn⟩
  · have c1 : Hid _ := cyclic_nolen k s n cap (.slice s2 n2 cap2) w hT hp hn
    have c2 : Hid _ := refCyclic_nolen k s n cap (.slice s2 n2 cap2) w hp hn
    clear hl hl2 hp hn
    go_enter Tryd.func7, Tryd.ntmps7
    go_wp2_with fail
    refine Calls.mono (Hid.out c1) ?_; rintro e w' ⟨rfl, hw'⟩; subst w'
    go_wp2_with fail
    refine Calls.mono (Hid.out c2) ?_; rintro e w' ⟨rfl, hw'⟩; subst w'
    go_wp2_with fail
    refine Calls.mono (same_nil _ _ _ _ _) ?_; rintro e w' ⟨rfl, q, hw'⟩; subst w'
    go_wp2_with fail
    refine Calls.mono (Hid.out (al.out (w.drewN q) hT)) ?_; rintro e w1 ⟨rfl, hb⟩
    have HB : Hid (Below w.heap.size w w1) := ⟨hb.os, hb.tape, hb.output, hb.size, hb.block⟩
    clear hb
    go_wp2_with fail
    go_ret
    exact ⟨rfl, HB.out⟩
  by_cases hne : n2 ≠ n
  · have c1 : Hid _ := cyclic_other k s s2 n cap n2 cap2 m w hT hp hn hm hne
    have c2 : Hid _ := refCyclic_other k s s2 n cap n2 cap2 m w hp hn hm hne
    clear hl hl2 hp hn hne
    go_enter Tryd.func7, Tryd.ntmps7
    go_wp2_with fail
    refine Calls.mono (Hid.out c1) ?_; rintro e w' ⟨rfl, hw'⟩; subst w'
    go_wp2_with fail
    refine Calls.mono (Hid.out c2) ?_; rintro e w' ⟨rfl, hw'⟩; subst w'
    go_wp2_with fail
    refine Calls.mono (same_nil _ _ _ _ _) ?_; rintro e w' ⟨rfl, q, hw'⟩; subst w'
    go_wp2_with fail
    refine Calls.mono (Hid.out (al.out (w.drewN q) hT)) ?_; rintro e w1 ⟨rfl, hb⟩
    have HB : Hid (Below w.heap.size w w1) := ⟨hb.os, hb.tape, hb.output, hb.size, hb.block⟩
    clear hb
    go_wp2_with fail
    go_ret
    exact ⟨rfl, HB.out⟩
  obtain rfl : n = n2 := by omega
  clear hne hbig2 hroom2
  have hpos : 1 ≤ n := by rw [hn]; exact Nat.one_le_two_pow
  obtain ⟨b, o, rfl, hf⟩ := hl.lies hpos
  obtain ⟨b2, o2, rfl, hf2⟩ := hl2.lies hpos
  have hlt := tab_lt hT
  have hbl : b < w.heap.size := hf.lt (by omega)
  have hbl2 : b2 < w.heap.size := hf2.lt (by omega)
  have c1 : Hid _ := cyclic_yes k hp m n hn hm b o cap b2 o2 cap2 L L2 hl.lo hl2.lo w hT hf hf2
  have c2 : Hid _ := fun (v : World) (hv : Fam v b o n L) (hv2 : Fam v b2 o2 n L2) => refCyclic_yes k hp m n hn hm b o cap b2 o2 cap2 L L2 hl.lo hl2.lo v hv hv2
  have c3 : Hid _ := fun (v : World) (hT : Tab v) (g : Nat) (hv : Fam v g 0 n (cyc k n L L2)) => forward_yes k hp m n hn hm g 0 n (cyc k n L L2) (fun t => md_nonneg _ _) v hT hv
  have c4 : Hid _ := fun (v : World) (hT : Tab v) (hv : Fam v b o n L) => forward_yes k hp m n hn hm b o cap L hl.lo v hT hv
  have c5 : Hid _ := fun (v : World) (hT : Tab v) (hv : Fam v b2 o2 n L2) => forward_yes k hp m n hn hm b2 o2 cap2 L2 hl2.lo v hT hv
  have hcd : Hid (∀ t, dft k (rt k m) n (cyc k n L L2) t = md k (dft k (rt k m) n L t * dft k (rt k m) n L2 t)) := fun t => cyc_dft k (rt k m) n (by omega) (by have := rt_full k hp m hm; rw [← hn] at this; exact this) L L2 t
  have HF : Hid (Fam w b o n L) := hf
  have HF2 : Hid (Fam w b2 o2 n L2) := hf2
  have hA0 : ∀ t, 0 ≤ dft k (rt k m) n L t := fun t => dft_nonneg _ _ _ _ _
  have hB0 : ∀ t, 0 ≤ dft k (rt k m) n L2 t := fun t => dft_nonneg _ _ _ _ _
  clear hf hf2 hl hl2 hp hn
  generalize dft k (rt k m) n (cyc k n L L2) = Z at *
  generalize cyc k n L L2 = C at *
  generalize dft k (rt k m) n L = A at *
  generalize dft k (rt k m) n L2 = B at *
  go_enter Tryd.func7, Tryd.ntmps7
  go_wp2_with fail
  refine Calls.mono (Hid.out c1) ?_; rintro e w1 ⟨g, rfl, hg1, hg2, f1, b1⟩
  have F1 : Hid (Fam w1 g 0 n C) := f1
  have B1 : Hid (Below w.heap.size w w1) := b1
  have T1 : Tab w1 := hT.below b1 hlt
  have hle1 : w.heap.size ≤ w1.heap.size := b1.size
  have d1 : Hid (Fam w1 b o n L) := HF.out.below b1 hbl
  have d2 : Hid (Fam w1 b2 o2 n L2) := HF2.out.below b1 hbl2
  have c2' : Hid _ := c2.out w1 d1.out d2.out
  clear f1 b1 c1 c2 HF HF2 hT
  go_wp2_with fail
  refine Calls.mono (Hid.out c2') ?_; rintro e w2 ⟨rfl, z2, f2, b2'⟩
  have T2 : Tab w2 := T1.below b2' (tab_lt T1)
  have F1' : Hid (Fam w2 g 0 n C) := F1.out.below b2' hg2
  have c6 : Hid _ := same_fam n (by omega) g 0 n w1.heap.size 0 n C C (fun _ _ => rfl) w2 F1'.out f2
  have B2 : Hid (Below w.heap.size w w2) := B1.out.trans (b2'.mono hle1)
  have d1' : Hid (Fam w2 b o n L) := d1.out.below b2' (by omega)
  have d2' : Hid (Fam w2 b2 o2 n L2) := d2.out.below b2' (by omega)
  have hg3 : g < w2.heap.size := by omega
  clear f2 b2' c2' F1 B1 d1 d2 T1
  go_wp2_with fail
  refine Calls.mono (Hid.out c6) ?_; rintro e w' ⟨rfl, q, hw'⟩; subst w'
  clear c6
  have T3 : Tab (w2.drewN q) := T2
  have F3 : Hid (Fam (w2.drewN q) g 0 n C) := F1'.out
  have B3 : Hid (Below w.heap.size w (w2.drewN q)) := below_drewN B2.out q
  have e1 : Hid (Fam (w2.drewN q) b o n L) := d1'.out
  have e2 : Hid (Fam (w2.drewN q) b2 o2 n L2) := d2'.out
  have hs3 : w2.heap.size ≤ (w2.drewN q).heap.size := Nat.le_refl _
  clear F1' B2 d1' d2' T2
  generalize w2.drewN q = w3 at *
  have c3' : Hid _ := c3.out w3 T3 g F3.out
  clear c3 F3
  go_wp2_with fail
  refine Calls.mono (Hid.out c3') ?_; rintro e w4 ⟨rfl, f4, _, b4, z4⟩
  have T4 : Tab w4 := T3.below b4 (tab_lt T3)
  have F4 : Hid (Fam w4 w3.heap.size 0 n Z) := f4
  have B4 : Hid (Below w.heap.size w w4) := B3.out.trans (b4.mono (by omega))
  have e1' : Hid (Fam w4 b o n L) := e1.out.below b4 (by omega)
  have e2' : Hid (Fam w4 b2 o2 n L2) := e2.out.below b4 (by omega)
  have c4' : Hid _ := c4.out w4 T4 e1'.out
  clear c3' c4 f4 b4 B3 e1 e2 T3 e1'
  go_wp2_with fail
  refine Calls.mono (Hid.out c4') ?_; rintro e w5 ⟨rfl, f5, _, b5, z5⟩
  have T5 : Tab w5 := T4.below b5 (tab_lt T4)
  have F5 : Hid (Fam w5 w4.heap.size 0 n A) := f5
  have F4' : Hid (Fam w5 w3.heap.size 0 n Z) := F4.out.below b5 z4
  have B5 : Hid (Below w.heap.size w w5) := B4.out.trans (b5.mono (by omega))
  have e2'' : Hid (Fam w5 b2 o2 n L2) := e2'.out.below b5 (by omega)
  have c5' : Hid _ := c5.out w5 T5 e2''.out
  clear c4' c5 f5 b5 B4 e2' e2'' T4 F4
  go_wp2_with fail
  refine Calls.mono (Hid.out c5') ?_; rintro e w6 ⟨rfl, f6, _, b6, z6⟩
  have T6 : Tab w6 := T5.below b6 (tab_lt T5)
  have F6 : Hid (Fam w6 w5.heap.size 0 n B) := f6
  have F5' : Hid (Fam w6 w4.heap.size 0 n A) := F5.out.below b6 z5
  have F4'' : Hid (Fam w6 w3.heap.size 0 n (fun t => md k (A t * B t))) := (F4'.out.below b6 (by omega)).congr (fun t _ => hcd.out t)
  have B6 : Hid (Below w.heap.size w w6) := B5.out.trans (b6.mono (by omega))
  clear c5' f6 b6 B5 T5 F5 F4'
  have hself : ((n : Int) == (n : Int)) = true := beq_iff_eq.2 rfl
  go_wp2_with fail
  go_loopw [92] (fun vi wx => ∃ i : Nat, i ≤ n ∧ vi = .int .i64 i ∧ ∃ q, wx = w6.drewN q) (fun vi _ => n - (intOf vi).toNat)
  case atStart => exact ⟨0, Nat.zero_le _, rfl, 0, rfl⟩
  case round =>
    obtain ⟨i, hi, rfl, q, hwx⟩ := hrel
    have HW : Hid (wr = w6.drewN q) := hwx
    have T7 : Tab wr := by rw [hwx]; exact T6
    by_cases hlt2 : i < n
    · have hc1 : wr.cell? ⟨w3.heap.size, i, none⟩ = some (.int .u64 (md k (A i * B i))) := by rw [hwx]; exact F4''.out.zero i hlt2
      have hc2 : wr.cell? ⟨w4.heap.size, i, none⟩ = some (.int .u64 (A i)) := by rw [hwx]; exact F5'.out.zero i hlt2
      have hc3 : wr.cell? ⟨w5.heap.size, i, none⟩ = some (.int .u64 (B i)) := by rw [hwx]; exact F6.out.zero i hlt2
      have hAi := hA0 i
      have hBi := hB0 i
      have hin : (i : Int) < (n : Int) := by omega
      have hi0 : (0 : Int) ≤ (i : Int) := by omega
      clear hwx
      go_wp2_with fail
      go_quiet ((go_at_call 21; exact Calls.quiet_of_same (mul_any _ _ _ _ T7 hAi hBi)))
      go_wp2_with fail
      go_roundw
      case rel =>
        refine ⟨i + 1, by omega, by go_num, q + nq, ?_⟩
        rw [HW.out]
        exact World.drewN_drewN _ _ _
      case measure => simp [intOf]; omega
    · have al2 : Hid _ := al.out wr T7
      have B7 : Hid (Below w.heap.size w wr) := by show Below _ _ _; rw [hwx]; exact below_drewN B6.out q
      have hsz : w.heap.size ≤ wr.heap.size := B7.out.size
      clear hwx
      go_wp2_with fail
      refine Calls.mono (Hid.out al2) ?_; rintro e w8 ⟨rfl, b8⟩
      have B8 : Hid (Below w.heap.size w w8) := B7.out.trans (b8.mono hsz)
      clear b8
      go_wp2_with fail
      go_ret
      exact ⟨rfl, B8.out⟩

end Go.Proofs.YtegbkicbmdkpiaaDoor.nttCyclic
