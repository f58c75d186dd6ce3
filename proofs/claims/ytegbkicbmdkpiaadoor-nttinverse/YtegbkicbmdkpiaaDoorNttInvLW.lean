/- The walk of 'beaglelaw02.NttInverse': it answers true; nothing that was there is turned. For the statement's proof. -/
import Derived.OpenShut
import Derived.ProofKit
import Derived.Test.YtegbkicbmdkpiaaDoorNttAlive
import Derived.Test.YtegbkicbmdkpiaaDoorSlices
namespace Go.Proofs.YtegbkicbmdkpiaaDoor.nttInverse
open Go.ChangeShapes Go.WideShapes Go.ChangeAt Go.RowKit Res
set_option linter.unusedVariables false

theorem log_or (n : Nat) : NoLog n ∨ ∃ m : Nat, m ≤ 12 ∧ n = 2 ^ m := by
  by_cases hn : NoLog n
  · exact Or.inl hn
  · right
    refine Classical.byContradiction fun h => hn fun m hm e => h ⟨m, hm, ?_⟩
    have e' : (n : Int) = ((2 ^ m : Nat) : Int) := by rw [e, Int.natCast_pow]; rfl
    exact Int.ofNat.inj e'
set_option maxHeartbeats 1000000 in
theorem walk (k : Int) (s : Option Addr) (n cap : Nat) (L : Nat → Int) (w : World) (w0 : (Lit.int .i64 k).wf = true) (hl : Sl w s n cap L) (hT : Tab w) :
    Calls Tryd.prog 5 #[.int .i64 k, .slice s n cap] w fun e w' => e = .returned (.bool true) ∧ Below w.heap.size w w' := by
  clear w0
  have al : Hid _ := alive_any w hT
  have hroom : n * 8 ≤ 140737488351232 := by have := hl.le; have := hl.room; omega
  by_cases hbig : 200 < n
  · clear hl hT
    go_enter Tryd.func5, Tryd.ntmps5
    go_wp2_with fail
    refine Calls.mono (Hid.out al) ?_; rintro e w1 ⟨rfl, hb⟩
    have HB : Hid _ := hb
    clear hb
    go_wp2_with fail
    go_ret
    exact ⟨rfl, HB.out⟩
  by_cases hp : pr k = 0
  · have c1 : Hid _ := inverse_noprime k s n cap w hT hp
    have c2 : Hid _ := refInverse_noprime k s n cap w hp
    clear hl hT hp
    go_enter Tryd.func5, Tryd.ntmps5
    go_wp2_with fail
    refine Calls.mono (Hid.out c1) ?_; rintro e w' ⟨rfl, hw'⟩; subst w'
    go_wp2_with fail
    refine Calls.mono (Hid.out c2) ?_; rintro e w' ⟨rfl, hw'⟩; subst w'
    go_wp2_with fail
    refine Calls.mono (Hid.out al) ?_; rintro e w1 ⟨rfl, hb⟩
    have HB : Hid _ := hb
    clear hb
    go_wp2_with fail
    refine Calls.mono (same_nil _ _ _ _ _) ?_; rintro e w' ⟨rfl, q, hw'⟩; subst w'
    go_wp2_with fail
    go_ret
    exact ⟨rfl, below_drewN HB.out q⟩
  rcases log_or n with hn | ⟨m, hm, hn⟩
  · have c1 : Hid _ := inverse_nolen k s n cap w hT hp hn
    have c2 : Hid _ := refInverse_nolen k s n cap w hp hn
    clear hl hT hp hn
    go_enter Tryd.func5, Tryd.ntmps5
    go_wp2_with fail
    refine Calls.mono (Hid.out c1) ?_; rintro e w' ⟨rfl, hw'⟩; subst w'
    go_wp2_with fail
    refine Calls.mono (Hid.out c2) ?_; rintro e w' ⟨rfl, hw'⟩; subst w'
    go_wp2_with fail
    refine Calls.mono (Hid.out al) ?_; rintro e w1 ⟨rfl, hb⟩
    have HB : Hid _ := hb
    clear hb
    go_wp2_with fail
    refine Calls.mono (same_nil _ _ _ _ _) ?_; rintro e w' ⟨rfl, q, hw'⟩; subst w'
    go_wp2_with fail
    go_ret
    exact ⟨rfl, below_drewN HB.out q⟩
  · have hpos : 1 ≤ n := by rw [hn]; exact Nat.one_le_two_pow
    obtain ⟨b, o, rfl, hf⟩ := hl.lies hpos
    have hlt := tab_lt hT
    have hbl : b < w.heap.size := hf.lt (by omega)
    have c1 : Hid _ := inverse_yes k hp m n hn hm b o cap L hl.lo w hT hf
    have c2 : Hid _ := fun (v : World) (hv : Fam v b o n L) => refInverse_yes k hp m n hn hm b o cap L hl.lo v hv
    have HF : Hid (Fam w b o n L) := hf
    clear hf hl hp hn al
    generalize idft k m n L = D at *
    go_enter Tryd.func5, Tryd.ntmps5
    go_wp2_with fail
    refine Calls.mono (Hid.out c1) ?_; rintro e w1 ⟨rfl, f1, _, b1, z1⟩
    have F1 : Hid (Fam w1 w.heap.size 0 n D) := f1
    have B1 : Hid (Below w.heap.size w w1) := b1
    have T1 : Tab w1 := hT.below b1 hlt
    have c3 : Hid _ := c2.out w1 (HF.out.below b1 hbl)
    clear f1 b1 c1 c2 HF
    go_wp2_with fail
    refine Calls.mono (Hid.out c3) ?_; rintro e w2 ⟨g, cap2, rfl, hg1, hg2, f2, b2⟩
    have T2 : Tab w2 := T1.below b2 (tab_lt T1)
    have F12 : Hid (Fam w2 w.heap.size 0 n D) := F1.out.below b2 z1
    have F2 : Hid (Fam w2 g 0 n D) := f2
    have B2 : Hid (Below w.heap.size w w2) := B1.out.trans (b2.mono (by omega))
    have al : Hid _ := alive_any w2 T2
    have hsz2 : w.heap.size < w2.heap.size := by have := b2.size; omega
    clear f2 b2 c3 F1 B1
    go_wp2_with fail
    refine Calls.mono (Hid.out al) ?_; rintro e w3 ⟨rfl, b3⟩
    have c4 : Hid _ := same_fam n (by omega) w.heap.size 0 n g 0 cap2 D D (fun _ _ => rfl) w3 (F12.out.below b3 hsz2) (F2.out.below b3 hg2)
    have B3 : Hid (Below w.heap.size w w3) := B2.out.trans (b3.mono (by omega))
    clear b3 al F12 F2 B2
    go_wp2_with fail
    refine Calls.mono (Hid.out c4) ?_; rintro e w' ⟨rfl, q, hw'⟩; subst w'
    clear c4
    go_wp2_with fail
    go_ret
    exact ⟨rfl, below_drewN B3.out q⟩

end Go.Proofs.YtegbkicbmdkpiaaDoor.nttInverse
