/- The walk of 'beaglelaw09.ZedPeriods': it answers true; nothing that was there is turned. For the statement's proof. -/
import Derived.OpenShut
import Derived.ProofKit
import Derived.Test.YtgdjllfolfiboaaDoorZdLaw
namespace Go.Proofs.YtgdjllfolfiboaaDoor.zedPeriods
open Go.ChangeShapes Go.WideShapes Go.ChangeAt Go.RowKit Cls
set_option linter.unusedVariables false

set_option maxHeartbeats 4000000 in
theorem walk (s : ByteArray) (w : World) (hs : s.size ≤ maxLen) (hT : TabB w) :
    Calls Tryd.prog 6 #[.string s] w fun e w' => e = .returned (.bool true) ∧ Below w.heap.size w w' := by
  have HT : Hid (Tw w w) := Tw.refl hT
  have CA : Hid _ := fun (v : World) (hv : TabB v) => alive09_any v hv
  unfold maxLen at hs
  clear hT
  by_cases hn : s.size ≤ 500
  · have hnI : ¬ (500 : Int) < (s.size : Int) := by omega
    obtain ⟨x, hx⟩ := pd_some s
    have C1 : Hid _ := fun (v : World) => period_any s (by omega) x hx v
    have C2 : Hid _ := fun (v : World) => refPeriod_any s (by omega) x hx v
    have C3 : Hid _ := fun (v : World) => (rows_any s (by omega) v).mono (fun _ _ h => told_len (rwl_len s) h)
    have HPx : Hid (∀ k, 1 ≤ k → k < s.size → k ≤ x → (k + zr s k = s.size ↔ k = x)) := fun k h1 h2 h3 => by
      rw [← per_zr (by omega)]
      rcases hx with ⟨h0, _⟩ | hx
      · omega
      · constructor
        · intro h
          have := hx.le_of h1 h
          omega
        · intro h
          rw [h]
          exact hx.is
    have hxl : x ≤ 500 := by
      rcases hx with ⟨h0, h1⟩ | hx
      · omega
      · have := hx.le; omega
    clear hx
    go_enter Tryd.func6, Tryd.ntmps6
    go_wp2_with fail
    refine Calls.mono (C1.out w) ?_; rintro e w1 ⟨rfl, b1⟩
    have T1 : Hid (Tw w w1) := Tw.grow HT.out b1
    clear b1 HT C1
    go_wp2_with fail
    refine Calls.mono (C2.out w1) ?_; rintro e w2 ⟨rfl, b2⟩
    have T2 : Hid (Tw w w2) := Tw.grow T1.out b2
    clear b2 T1 C2
    go_wp2_with fail
    refine Calls.mono (C3.out w2) ?_; rintro e w3 ⟨⟨bo, d, rfl, hi⟩, b3⟩
    have T3 : Hid (Tw w w3) := Tw.grow T2.out b3
    have HI : Hid (Is w3 bo (rwl s)) := hi
    clear b3 T2 C3 hi
    go_wp2_with fail
    go_loopw [19] (fun vk wr => Wrote (fun _ _ => False) w3 wr ∧ ∃ k : Nat, k ≤ s.size ∧ vk = .int .i64 k) (fun vk _ => s.size - (intOf vk).toNat)
    case atStart => exact ⟨Wrote.refl _ _, 0, Nat.zero_le _, rfl⟩
    case round =>
      obtain ⟨hwr, k, hk, rfl⟩ := hrel
      have HWr : Hid _ := hwr
      clear hwr
      by_cases hkn : k < s.size
      · have hkI : (k : Int) < (s.size : Int) := by omega
        obtain ⟨b, rfl, _, hc⟩ := HI.out (by rw [rwl_len]; omega)
        have hck := (HWr.out.cell b k (fun e => e)).trans (hc k (by rw [rwl_len]; exact hkn))
        rw [rwl_at] at hck
        have hle := zr_le s k hk
        have hpx := HPx.out k
        obtain ⟨z, hz⟩ : ∃ z, zr s k = z := ⟨_, rfl⟩
        rw [hz] at hck hle hpx
        clear hc hz
        by_cases hk0 : k = 0
        · subst hk0
          clear hpx
          go_wp2_with fail
          go_roundw
          case rel => exact ⟨HWr.out, 1, by omega, by go_num⟩
          case measure => simp [intOf]; omega
        · have hk0I : (0 : Int) < (k : Int) := by omega
          by_cases hkx : k ≤ x
          · have hkxI : (k : Int) ≤ (x : Int) := by omega
            have hpx := hpx (by omega) hkn hkx
            by_cases hke : k = x
            · have hke1 := hpx.2 hke
              have hke2 : (k : Int) + (z : Int) = (s.size : Int) := by omega
              subst hke
              clear hpx hke1
              go_wp2_with fail
              go_roundw
              case rel => exact ⟨HWr.out, k + 1, by omega, by go_num⟩
              case measure => simp [intOf]; omega
            · have hke1 : ¬ k + z = s.size := fun h => hke (hpx.1 h)
              have hke2 : ¬ (k : Int) + (z : Int) = (s.size : Int) := by omega
              have hke3 : ((k : Int) + (z : Int) == (s.size : Int)) = false := by simpa using hke2
              have hke4 : ¬ (k : Int) = (x : Int) := by omega
              have hke5 : ((k : Int) == (x : Int)) = false := by simpa using hke4
              clear hpx hke1 hke
              go_wp2_with fail
              go_roundw
              case rel => exact ⟨HWr.out, k + 1, by omega, by go_num⟩
              case measure => simp [intOf]; omega
          · have hkxI : ¬ (k : Int) ≤ (x : Int) := by omega
            clear hpx
            go_wp2_with fail
            go_roundw
            case rel => exact ⟨HWr.out, k + 1, by omega, by go_num⟩
            case measure => simp [intOf]; omega
      · obtain rfl : k = s.size := by omega
        have T4 : Hid (Tw w wr) := Tw.grow T3.out (HWr.out.below (fun _ _ e => e.elim))
        go_wp2_with fail
        refine Calls.mono (CA.out wr T4.out.tab) ?_; rintro e w5 ⟨rfl, b5⟩
        have T5 : Hid (Tw w w5) := Tw.grow T4.out b5
        clear b5
        go_wp2_with fail
        go_ret
        exact ⟨rfl, T5.out.bel⟩
  · have hnI : (500 : Int) < (s.size : Int) := by omega
    go_enter Tryd.func6, Tryd.ntmps6
    go_wp2_with fail
    refine Calls.mono (CA.out w HT.out.tab) ?_; rintro e w1 ⟨rfl, b1⟩
    have T1 : Hid (Tw w w1) := Tw.grow HT.out b1
    clear b1 HT CA
    go_wp2_with fail
    go_ret
    exact ⟨rfl, T1.out.bel⟩

end Go.Proofs.YtgdjllfolfiboaaDoor.zedPeriods
