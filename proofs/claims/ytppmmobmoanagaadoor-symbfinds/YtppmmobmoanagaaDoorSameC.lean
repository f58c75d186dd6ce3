/- Contracts of beagleref01.Same. -/
import Derived.Test.YtppmmobmoanagaaDoorMem
import Derived.CellFam
import Derived.Deep.QuietTactic
import Derived.BigQuiet
namespace Go.Proofs.YtppmmobmoanagaaDoor
open Go.RowKit Res

/-! Same -/
set_option maxHeartbeats 400000 in
theorem same_nil (ao bo : Option Addr) (ca cb : Nat) (w : World) : Calls Tryd.prog 11 #[.slice ao 0 ca, .slice bo 0 cb] w fun e w' => e = .returned (.bool true) ∧ ∃ q, w' = w.drewN q := by
  go_enter Tryd.func11, Tryd.ntmps11
  go_wp2_with fail
  go_loop [5] (fun vi => vi = .int .i64 0) (fun _ => 0)
  case atStart => rfl
  case round =>
    subst hrel
    go_wp2_with fail
    go_ret
    exact ⟨rfl, 0, rfl⟩

set_option maxHeartbeats 1000000 in
theorem same_fam (n : Nat) (hle : n ≤ 1152921504606846976) (ab ao ca bb bo cb : Nat) (G H : Nat → Int) (hGH : ∀ t, t < n → G t = H t) (w : World) (ha : Fam w ab ao n G) (hb : Fam w bb bo n H) :
    Calls Tryd.prog 11 #[.slice (some ⟨ab, ao, none⟩) n ca, .slice (some ⟨bb, bo, none⟩) n cb] w fun e w' => e = .returned (.bool true) ∧ ∃ q, w' = w.drewN q := by
  have ha' : ∀ t, t < n → w.cell? ⟨ab, ao + t, none⟩ = some (.int .u64 (H t)) := fun t ht => by rw [ha t ht, hGH t ht]
  clear ha hGH
  unfold Fam at hb
  go_enter Tryd.func11, Tryd.ntmps11
  go_wp2_with fail
  go_loopw [5] (fun vi wx => ∃ i : Nat, i ≤ n ∧ vi = .int .i64 i ∧ ∃ q, wx = w.drewN q) (fun vi _ => n - (intOf vi).toNat)
  case atStart => exact ⟨0, Nat.zero_le _, rfl, 0, rfl⟩
  case round =>
    obtain ⟨i, hi, rfl, q, hwx⟩ := hrel
    have HW : Hid _ := hwx
    have ha2 : ∀ t, t < n → wr.cell? ⟨ab, ao + t, none⟩ = some (.int .u64 (H t)) := fun t ht => by rw [hwx]; exact ha' t ht
    have hb2 : ∀ t, t < n → wr.cell? ⟨bb, bo + t, none⟩ = some (.int .u64 (H t)) := fun t ht => by rw [hwx]; exact hb t ht
    clear hwx ha' hb
    by_cases hlt : i < n
    · go_wp2_with fail
      go_quiet (fail)
      go_wp2_with fail
      go_roundw
      case rel =>
        refine ⟨i + 1, by omega, by go_num, q + nq, ?_⟩
        rw [HW.out]
        exact World.drewN_drewN _ _ _
      case measure => simp [intOf]; omega
    · go_wp2_with fail
      go_ret
      exact ⟨rfl, q, HW.out⟩
end Go.Proofs.YtppmmobmoanagaaDoor
