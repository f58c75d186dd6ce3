/- Contracts of slices.Index, slices.Contains of classes. -/
import Derived.Test.YtcohcdebbkfdfaaDoorLfRow
import Derived.BigQuiet
import Derived.RegionTactic
import Derived.BigRegion
import Derived.Deep.RegionWith
namespace Go.Proofs.YtcohcdebbkfdfaaDoor
open Go.RowKit
namespace Cls

set_option maxHeartbeats 1000000 in
theorem index_any (P : Nat → Nat → Bool) (f : Nat → Bool) (n cap : Nat) (ao : Option Addr) (w : World) (hl : Lf w ao n P) :
    Calls Tryd.prog 42 #[.slice ao n cap, .agg #[.int .u64 ((wd (f) 0 : Nat) : Int), .int .u64 ((wd (f) 1 : Nat) : Int), .int .u64 ((wd (f) 2 : Nat) : Int), .int .u64 ((wd (f) 3 : Nat) : Int)]] w fun e w' => (∃ r : Int, e = .returned (.int .i64 r) ∧ ((0 ≤ r ∧ r < 4398046511105 ∧ ∃ t, t < n ∧ sm f (P t) = true) ∨ (r = -1 ∧ ∀ t, t < n → sm f (P t) = false))) ∧ Below w.heap.size w w' := by
  obtain ⟨w1, b1⟩ := box w f
  have E1 : Hid _ := b1.eq
  have B1 : Hid (Below w.heap.size w w1) := b1.bel
  have HL : Hid (Lf w1 ao n P) := hl.grow b1.bel
  have F1 : Hid (Fam w1 w.heap.size 0 4 (wi f)) := b1.fam
  have hn := hl.small
  clear hl b1
  go_enter Tryd.func42, Tryd.ntmps42
  go_wp2_with fail
  rw [← E1.out]
  clear E1
  go_loopw [8] (fun vk wr => Below w1.heap.size w1 wr ∧ ∃ k : Nat, k ≤ n ∧ vk = .int .i64 k ∧ ∀ t, t < k → sm f (P t) = false) (fun vk _ => n - (intOf vk).toNat)
  case atStart => exact ⟨Below.refl _ _, 0, Nat.zero_le _, rfl, fun t ht => by omega⟩
  case round =>
    obtain ⟨hbel, k, hk, rfl, hno⟩ := hrel
    have HNO : Hid _ := hno
    have HB : Hid _ := hbel
    have HLr : Hid (Lf wr ao n P) := HL.out.grow hbel
    have F2 : Fam wr w.heap.size 0 4 (wi f) := F1.out.below hbel (F1.out.lt (by omega))
    have B2 : Hid (Below w.heap.size w wr) := B1.out.trans (hbel.mono B1.out.size)
    clear hbel hno
    by_cases hkn : k < n
    · obtain ⟨b, o, rfl, hb, hC⟩ := HLr.out.lies (by omega)
      obtain ⟨c0, c1, c2, c3⟩ := hC.four hkn
      obtain ⟨a0, a1, a2, a3⟩ := c4 F2
      have hkI : (k : Int) < (n : Int) := by omega
      clear hC F2
      go_wp2_with fail
      go_quiet (fail)
      have B3 : Hid (Below w.heap.size w (wr.drewN nq)) := below_drewN B2.out nq
      have HB3 : Hid (Below w1.heap.size w1 (wr.drewN nq)) := below_drewN HB.out nq
      by_cases hs : sm f (P k) = true
      · have HS : Hid _ := hs
        simp only [hs]
        go_wp2_with fail
        go_ret
        exact ⟨⟨(k : Int), rfl, Or.inl ⟨by omega, by omega, k, hkn, HS.out⟩⟩, B3.out⟩
      · have hs' : sm f (P k) = false := by simpa using hs
        have HS : Hid (∀ t, t < k + 1 → sm f (P t) = false) := fun t ht => by
          by_cases e : t = k
          · subst e; exact hs'
          · exact HNO.out t (by omega)
        simp only [hs']
        clear hs
        go_wp2_with fail
        go_roundw
        case rel => exact ⟨HB3.out, k + 1, by omega, by go_num, HS.out⟩
        case measure => simp [intOf]; omega
    · obtain rfl : k = n := by omega
      have HR : Hid _ := HNO.out
      clear F2
      go_wp2_with fail
      go_ret
      exact ⟨⟨-1, rfl, Or.inr ⟨rfl, HR.out⟩⟩, B2.out⟩

set_option maxHeartbeats 1000000 in
theorem contains_core (P : Nat → Nat → Bool) (f : Nat → Bool) (n cap : Nat) (ao : Option Addr) (w : World) (hl : Lf w ao n P) (t : Bool) (ht : t = (List.range n).any fun k => sm f (P k)) :
    Calls Tryd.prog 32 #[.slice ao n cap, .agg #[.int .u64 ((wd (f) 0 : Nat) : Int), .int .u64 ((wd (f) 1 : Nat) : Int), .int .u64 ((wd (f) 2 : Nat) : Int), .int .u64 ((wd (f) 3 : Nat) : Int)]] w fun e w' => e = .returned (.bool t) ∧ Below w.heap.size w w' := by
  obtain ⟨w1, b1⟩ := box w f
  have E1 : Hid _ := b1.eq
  have B1 : Hid (Below w.heap.size w w1) := b1.bel
  have c1 : Hid _ := index_any P f n cap ao w1 (hl.grow b1.bel)
  obtain ⟨a0, a1, a2, a3⟩ := c4 b1.fam
  have HT : Hid _ := ht
  clear hl b1 ht
  go_enter Tryd.func32, Tryd.ntmps32
  go_wp2_with fail
  rw [← E1.out]
  clear E1
  go_wp2_with fail
  refine Calls.mono (Hid.out c1) ?_; rintro e w2 ⟨⟨r, rfl, hr⟩, b2⟩
  have B2 : Hid (Below w.heap.size w w2) := B1.out.trans (b2.mono B1.out.size)
  have HR : Hid _ := hr
  clear b2 hr
  go_wp2_with fail
  go_ret
  refine ⟨?_, B2.out⟩
  rw [HT.out]
  rcases HR.out with ⟨h0, _, k, hk, hs⟩ | ⟨rfl, hs⟩
  · rw [any_range hk hs]; simp [h0]
  · rw [any_range_no hs]; rfl

theorem contains_none (P : Nat → Nat → Bool) (n cap : Nat) (ao : Option Addr) (w : World) (hl : Lf w ao n P) :
    Calls Tryd.prog 32 #[.slice ao n cap, .agg #[.int .u64 0, .int .u64 0, .int .u64 0, .int .u64 0]] w fun e w' => e = .returned (.bool (emp P n)) ∧ Below w.heap.size w w' := by
  have h := contains_core P (fun _ => false) n cap ao w hl (emp P n) (by unfold emp; congr 1; funext t; exact sm_comm _ _)
  have z : ∀ k, wd (fun _ => false) k = 0 := wd_none
  simp only [z] at h
  exact h

end Cls
end Go.Proofs.YtcohcdebbkfdfaaDoor
