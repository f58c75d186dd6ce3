/- The walk of 'beaglelaw03.CrtApart': it answers true; nothing that was there is turned. For the statement's proof. -/
import Derived.OpenShut
import Derived.ProofKit
import Derived.Test.YtlkooihjcdgcjaaDoorCrtAlive
namespace Go.Proofs.YtlkooihjcdgcjaaDoor.crtApart
open Go.ChangeShapes Go.WideShapes Go.ChangeAt Go.RowKit Res
set_option linter.unusedVariables false

set_option maxHeartbeats 2000000 in
theorem walk (a b : Int) (w : World) (w0 : (Lit.int .u64 a).wf = true) (w1 : (Lit.int .u64 b).wf = true) (hT : Tab w) :
    Calls Tryd.prog 6 #[.int .u64 a, .int .u64 b] w fun e w' => e = .returned (.bool true) ∧ Below w.heap.size w w' := by
  obtain ⟨ha0, ha1⟩ := bounds_u64 w0
  obtain ⟨hb0, hb1⟩ := bounds_u64 w1
  clear w0 w1
  have c0 : Hid _ := alive_any w hT
  have c1 : Hid _ := fun (v : World) (hv : Tab v) => parts_any a ha0 v hv
  have c2 : Hid _ := fun (v : World) (hv : Tab v) => parts_any b hb0 v hv
  have h0 := tab_lt hT
  have key : Hid (((md 0 a == md 0 b) && ((md 1 a == md 1 b) && (md 2 a == md 2 b))) = (a == b)) := by
    show _ = _
    by_cases e : a = b
    · subst e; simp
    · have : ¬ (md 0 a = md 0 b ∧ md 1 a = md 1 b ∧ md 2 a = md 2 b) := fun ⟨h0, h1, h2⟩ => by
        have ea := nm_back (x := a) (y := a) (z := a) (n := a) ha0 (by omega) rfl rfl rfl
        have eb := nm_back (x := a) (y := a) (z := a) (n := b) hb0 (by omega) h0 h1 h2
        exact e (ea.symm.trans eb)
      rw [show (a == b) = false from beq_eq_false_iff_ne.2 e]
      simp only [Bool.and_eq_false_iff, beq_eq_false_iff_ne]
      by_cases p0 : md 0 a = md 0 b
      · by_cases p1 : md 1 a = md 1 b
        · exact Or.inr (Or.inr fun p2 => this ⟨p0, p1, p2⟩)
        · exact Or.inr (Or.inl p1)
      · exact Or.inl p0
  go_enter Tryd.func6, Tryd.ntmps6
  go_wp2_with fail
  refine Calls.mono (Hid.out c0) ?_; rintro e v1 ⟨rfl, b1⟩
  have T1 : Tab v1 := hT.below b1 h0
  have B1 : Hid (Below w.heap.size w v1) := b1
  clear b1 c0
  go_wp2_with fail
  refine Calls.mono (c1.out v1 T1) ?_; rintro e v2 ⟨rfl, b2⟩
  have T2 : Tab v2 := T1.below b2 (tab_lt T1)
  have B2 : Hid (Below w.heap.size w v2) := B1.out.trans (b2.mono B1.out.size)
  clear b2 c1 B1
  go_wp2_with fail
  refine Calls.mono (c2.out v2 T2) ?_; rintro e v3 ⟨rfl, b3⟩
  have B3 : Hid (Below w.heap.size w v3) := B2.out.trans (b3.mono B2.out.size)
  clear b3 c2 B2
  go_wp2_with fail
  go_ret
  refine ⟨?_, B3.out⟩
  show Ending.returned (.bool (((md 0 a == md 0 b) && ((md 1 a == md 1 b) && (md 2 a == md 2 b))) == (a == b))) = _
  rw [key.out]
  simp

end Go.Proofs.YtlkooihjcdgcjaaDoor.crtApart
