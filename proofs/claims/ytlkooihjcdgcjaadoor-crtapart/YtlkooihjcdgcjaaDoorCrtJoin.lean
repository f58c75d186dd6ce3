/- Contract of crt.Join. -/
import Derived.Test.YtlkooihjcdgcjaaDoorCrtParts
namespace Go.Proofs.YtlkooihjcdgcjaaDoor
open Go.RowKit Res

set_option maxHeartbeats 1000000 in
theorem join_any (x y z : Int) (hx : 0 ≤ x) (hy : 0 ≤ y) (hz : 0 ≤ z) (w : World) (hT : Tab w) :
    Calls Tryd.prog 16 #[.agg #[.int .u64 x, .int .u64 y, .int .u64 z]] w fun e w' => Joined x y z e ∧ Below w.heap.size w w' := by
  obtain ⟨w1, b1⟩ := box3 w x y z 23
  have T1 := b1.tab hT
  have E1 : Hid _ := b1.eq
  have B1 : Hid _ := b1.bel
  obtain ⟨a0, a1, a2⟩ := b1.fam.c3
  have c1 : Hid _ := mixed_any x y z hx hy hz w1 T1
  clear b1 hT
  go_enter Tryd.func16, Tryd.ntmps16
  go_wp2_with fail
  rw [← E1.out]
  clear E1
  go_wp2_with fail
  refine Calls.mono (Hid.out c1) ?_; rintro e w2 ⟨rfl, b2⟩
  have T2 : Tab w2 := T1.below b2 (tab_lt T1)
  have B2 : Hid (Below w.heap.size w w2) := Below.trans B1.out (b2.mono (Below.size B1.out))
  have c2 : Hid _ := numberOf_any x y z w2 T2
  clear b2
  go_wp2_with fail
  refine Calls.mono (Hid.out c2) ?_; rintro e w3 ⟨hJ, b3⟩
  have B3 : Hid (Below w.heap.size w w3) := B2.out.trans (b3.mono B2.out.size)
  clear b3
  have HJ : Hid (∀ e, Joined x y z e = ((nm x y z ≤ 18446744073709551615 ∧ e = .returned (.tuple #[.int .u64 (nm x y z), .bool true])) ∨ (18446744073709551616 ≤ nm x y z ∧ e = .returned (.tuple #[.int .u64 0, .bool false])))) := fun _ => rfl
  rcases hJ with ⟨h, rfl⟩ | ⟨h, rfl⟩
  · go_wp2_with fail
    go_ret2
    refine ⟨?_, B3.out⟩
    rw [HJ.out]; left; exact ⟨h, rfl⟩
  · go_wp2_with fail
    go_ret2
    refine ⟨?_, B3.out⟩
    rw [HJ.out]; right; exact ⟨h, rfl⟩
end Go.Proofs.YtlkooihjcdgcjaaDoor
