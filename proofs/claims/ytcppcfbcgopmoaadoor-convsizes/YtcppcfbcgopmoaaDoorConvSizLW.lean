/- The walk of 'beaglelaw04.ConvSizes': it answers true; nothing that was there is turned. For the statement's proof. -/
import Derived.OpenShut
import Derived.ProofKit
import Derived.Test.YtcppcfbcgopmoaaDoorConvLaw
namespace Go.Proofs.YtcppcfbcgopmoaaDoor.convSizes
open Go.ChangeShapes Go.WideShapes Go.ChangeAt Go.RowKit Res
set_option linter.unusedVariables false

set_option maxHeartbeats 2000000 in
theorem walk (k : Int) (s : Option Addr) (n cap : Nat) (L : Nat → Int) (w : World) (w0 : (Lit.int .i64 k).wf = true) (hl : Sl w s n cap L) (hT : Tab w) :
    Calls Tryd.prog 3 #[.int .i64 k, .slice s n cap] w fun e w' => e = .returned (.bool true) ∧ Below w.heap.size w w' := by
  clear w0
  have al : Hid _ := alive_any w hT
  have hroom := hl.few
  by_cases hbig : 5000 < n
  · have hd : (5000 : Int) < (n : Int) := by omega
    clear hl hT
    go_enter Tryd.func3, Tryd.ntmps3
    go_wp2_with fail
    refine Calls.mono (Hid.out al) ?_; rintro e w1 ⟨rfl, hb⟩
    have HB : Hid _ := hb
    clear hb
    go_wp2_with fail
    go_ret
    exact ⟨rfl, HB.out⟩
  have key : ∃ (x : Int) (b : Bool), (Hid (Calls Tryd.prog 11 #[.int .i64 k] w fun e w' => e = .returned (.tuple #[.int .i64 x, .bool b]) ∧ w' = w)) ∧ (Hid (Calls Tryd.prog 12 #[.int .i64 k] w fun e w' => e = .returned (.tuple #[.int .i64 x, .bool b]) ∧ w' = w)) := by
    by_cases hk : k < 1 ∨ 4096 < k
    · exact ⟨0, false, size_no k hk w, refSize_no k hk w⟩
    · obtain ⟨m, rfl⟩ := Int.eq_ofNat_of_zero_le (show 0 ≤ k by omega)
      obtain ⟨l, h1, h2, h3⟩ := lg_of m (by omega)
      exact ⟨_, true, size_yes m l (by omega) (by omega) h1 _ rfl h2 h3 w, refSize_yes m l (by omega) (by omega) h1 _ rfl h2 h3 w⟩
  obtain ⟨x, b, c1, c2⟩ := key
  have c3 : Hid _ := fun (v : World) (hb : Below w.heap.size w v) => greatest_any s n cap (by omega) L v (hl.row.below hb (Nat.le_refl _))
  have c4 : Hid _ := fun (v : World) (hb : Below w.heap.size w v) => refGreatest_any s n cap (by omega) L v (hl.row.below hb (Nat.le_refl _))
  have hd : (n : Int) ≤ 5000 := by omega
  clear hl hT hbig
  generalize gr n L = G at *
  go_enter Tryd.func3, Tryd.ntmps3
  go_wp2_with fail
  refine Calls.mono (Hid.out c1) ?_; rintro e w' ⟨rfl, hw'⟩; subst w'
  go_wp2_with fail
  refine Calls.mono (Hid.out c2) ?_; rintro e w' ⟨rfl, hw'⟩; subst w'
  go_wp2_with fail
  refine Calls.mono (Hid.out al) ?_; rintro e w1 ⟨rfl, hb⟩
  have HB : Hid (Below w.heap.size w w1) := hb
  have c3' : Hid _ := c3.out w1 hb
  have c4' : Hid _ := c4.out w1 hb
  clear hb c3 c4 al c1 c2
  go_wp2_with fail
  refine Calls.mono (Hid.out c3') ?_; rintro e w' ⟨rfl, hw'⟩; subst w'
  go_wp2_with fail
  refine Calls.mono (Hid.out c4') ?_; rintro e w' ⟨rfl, hw'⟩; subst w'
  go_wp2_with fail
  go_ret
  exact ⟨rfl, HB.out⟩

end Go.Proofs.YtcppcfbcgopmoaaDoor.convSizes
