/- The walk of 'beaglelaw09.ZedWhole': it answers true; nothing that was there is turned. For the statement's proof. -/
import Derived.OpenShut
import Derived.ProofKit
import Derived.Test.YtgdjllfolfiboaaDoorZdLaw
import Derived.Laws.Concat
namespace Go.Proofs.YtgdjllfolfiboaaDoor.zedWhole
open Go.ChangeShapes Go.WideShapes Go.ChangeAt Go.RowKit Cls
set_option linter.unusedVariables false

theorem whole_at (n st : Nat) (i : Nat) (h : i < ((List.range (n / st + 1)).map (· * st)).length) : ((List.range (n / st + 1)).map (· * st))[i] = i * st := by simp

set_option maxHeartbeats 4000000 in
theorem walk (s : ByteArray) (w : World) (hs : s.size ≤ maxLen) (hT : TabB w) :
    Calls Tryd.prog 7 #[.string s] w fun e w' => e = .returned (.bool true) ∧ Below w.heap.size w w' := by
  have HT : Hid (Tw w w) := Tw.refl hT
  have CA : Hid _ := fun (v : World) (hv : TabB v) => alive09_any v hv
  unfold maxLen at hs
  clear hT
  by_cases hn : s.size ≤ 300 ∧ 0 < s.size
  · obtain ⟨hn, hn0⟩ := hn
    have hnI : ¬ (300 : Int) < (s.size : Int) := by omega
    have hnb := ba_full hn0
    obtain ⟨x, hx⟩ := pd_some s
    have hper : Per s x := by
      rcases hx with ⟨h0, _⟩ | hx
      · omega
      · exact hx
    have C1 : Hid _ := fun (v : World) => period_any s (by omega) x hx v
    obtain ⟨t, ht⟩ : ∃ t, s ++ s = t := ⟨_, rfl⟩
    have htl : t.size = s.size + s.size := by rw [← ht, ByteArray.size_append]
    have hadd : ∀ w, (Op.stringOp .add s s).run Tryd.prog w = .ok (.string t) w := fun w => by rw [run_string_add_sum (P := Tryd.prog) (w := w) s s (by omega), ht]
    obtain ⟨st, hst⟩ : ∃ st, st = if x ∣ s.size then x else s.size := ⟨_, rfl⟩
    have hfd : fdl s t = (List.range (s.size / st + 1)).map (· * st) := by
      rw [fdl_yes hn0, ← ht, ← twice_fds hper hst]
      congr 1
      rw [ByteArray.size_append]
      omega
    have hxp := hper.pos
    have hxl := hper.le
    have hst1 : 1 ≤ st ∧ st ≤ s.size := by
      rw [hst]
      split
      · exact ⟨hxp, hxl⟩
      · omega
    obtain ⟨q, hq⟩ : ∃ q, s.size / st = q := ⟨_, rfl⟩
    have hql : q ≤ 300 := by rw [← hq]; exact Nat.le_trans (Nat.div_le_self _ _) hn
    have hqst : ∀ k, k < q + 1 → k * st ≤ s.size := fun k hk => by
      have : k ≤ s.size / st := by omega
      rwa [Nat.le_div_iff_mul_le hst1.1] at this
    have hlen : (fdl s t).length = q + 1 := by rw [hfd, List.length_map, List.length_range, hq]
    have hat : ∀ k, (h : k < (fdl s t).length) → (fdl s t)[k] = k * st := fun k h => by
      have e : ∀ (M : List Nat) (h : k < M.length), M = (List.range (s.size / st + 1)).map (· * st) → M[k] = k * st := fun M h e => by
        subst e
        exact whole_at _ _ _ h
      exact e _ h hfd
    have C2 : Hid _ := fun (v : World) => (find09_any s t (by omega) (by omega) v).mono (fun _ _ h => told_len hlen h)
    have HAt : Hid _ := hat
    have HLen : Hid _ := hlen
    have hqI : (s.size : Int) / (st : Int) = (q : Int) := by rw [← hq]; exact Int.ofNat_ediv_ofNat
    have hqT : (s.size : Int).tdiv (st : Int) = (q : Int) := by rw [Int.tdiv_eq_ediv_of_nonneg (by omega)]; exact hqI
    have HQ : Hid _ := hqst
    have hq1 : st = s.size → q = 1 := fun e => by rw [← hq, e]; exact Nat.div_self (by omega)
    have hx0 : ¬ (x : Int) = 0 := by omega
    have hst0 : ¬ (st : Int) = 0 := by omega
    have hx1 : ¬ (x : Int) < 1 := by omega
    have hmod : (s.size : Int).tmod (x : Int) = (s.size : Int) % (x : Int) := Int.tmod_eq_emod_of_nonneg (by omega)
    have hdvd : (s.size : Int) % (x : Int) = 0 ↔ x ∣ s.size := by
      rw [← Int.natCast_emod, Nat.dvd_iff_mod_eq_zero]
      omega
    clear hx hper hfd hat hlen ht hq hqst
    by_cases hd : x ∣ s.size
    · have hd0 := hdvd.2 hd
      rw [if_pos hd] at hst
      clear hq1
      subst hst
      clear hdvd
      go_enter Tryd.func7, Tryd.ntmps7
      go_wp2_with fail
      refine Calls.mono (C1.out w) ?_; rintro e w1 ⟨rfl, b1⟩
      have T1 : Hid (Tw w w1) := Tw.grow HT.out b1
      clear b1 HT C1
      go_wp2_with fail
      refine Calls.mono (C2.out w1) ?_; rintro e w2 ⟨⟨bo, dd, rfl, hi⟩, b2⟩
      have T2 : Hid (Tw w w2) := Tw.grow T1.out b2
      have HI : Hid _ := hi
      clear b2 T1 C2 hi
      go_wp2_with fail
      clear hqI hqT hmod hd0
      obtain ⟨b, rfl, _, hc⟩ := HI.out (by rw [HLen.out]; omega)
      have HC : Hid (∀ k, k < q + 1 → w2.cell? ⟨b, k, none⟩ = some (.int .i64 ((k * st : Nat) : Int))) := fun k hk => by
        have h1 : k < (fdl s t).length := by rw [HLen.out]; exact hk
        have h2 := hc k h1
        rw [HAt.out k h1] at h2
        exact h2
      clear hc HI HAt HLen
      go_loopw [43] (fun vk wr => Wrote (fun _ _ => False) w2 wr ∧ ∃ k : Nat, k ≤ q + 1 ∧ vk = .int .i64 k) (fun vk _ => q + 1 - (intOf vk).toNat)
      case atStart => exact ⟨Wrote.refl _ _, 0, Nat.zero_le _, rfl⟩
      case round =>
        obtain ⟨hwr, k, hk, rfl⟩ := hrel
        have HWr : Hid _ := hwr
        clear hwr
        by_cases hkn : k < q + 1
        · have hkI : (k : Int) < (q : Int) + 1 := by omega
          have hck := (HWr.out.cell b k (fun e => e)).trans (HC.out k hkn)
          have hkst := HQ.out k hkn
          obtain ⟨z, hz⟩ : ∃ z, k * st = z := ⟨_, rfl⟩
          have hzI : (k : Int) * (st : Int) = (z : Int) := by rw [← hz]; exact (Int.natCast_mul _ _).symm
          rw [hz] at hck hkst
          clear hz
          go_wp2_with fail
          go_roundw
          case rel => exact ⟨HWr.out, k + 1, by omega, by go_num⟩
          case measure => simp [intOf]; omega
        · obtain rfl : k = q + 1 := by omega
          have T4 : Hid (Tw w wr) := Tw.grow T2.out (HWr.out.below (fun _ _ e => e.elim))
          go_wp2_with fail
          refine Calls.mono (CA.out wr T4.out.tab) ?_; rintro e w5 ⟨rfl, b5⟩
          have T5 : Hid (Tw w w5) := Tw.grow T4.out b5
          clear b5
          go_wp2_with fail
          go_ret
          exact ⟨rfl, T5.out.bel⟩
    · have hd0 : ¬ (s.size : Int) % (x : Int) = 0 := fun h => hd (hdvd.1 h)
      have hd1 : ((s.size : Int) % (x : Int) == 0) = false := by simpa using hd0
      rw [if_neg hd] at hst
      have hq2 := hq1 hst
      clear hq1
      subst hst
      subst hq2
      clear hdvd
      go_enter Tryd.func7, Tryd.ntmps7
      go_wp2_with fail
      refine Calls.mono (C1.out w) ?_; rintro e w1 ⟨rfl, b1⟩
      have T1 : Hid (Tw w w1) := Tw.grow HT.out b1
      clear b1 HT C1
      go_wp2_with fail
      refine Calls.mono (C2.out w1) ?_; rintro e w2 ⟨⟨bo, dd, rfl, hi⟩, b2⟩
      have T2 : Hid (Tw w w2) := Tw.grow T1.out b2
      have HI : Hid _ := hi
      clear b2 T1 C2 hi
      go_wp2_with fail
      clear hqI hqT hmod hd0
      obtain ⟨b, rfl, _, hc⟩ := HI.out (by rw [HLen.out]; omega)
      have HC : Hid (∀ k, k < 2 → w2.cell? ⟨b, k, none⟩ = some (.int .i64 ((k * s.size : Nat) : Int))) := fun k hk => by
        have h1 : k < (fdl s t).length := by rw [HLen.out]; exact hk
        have h2 := hc k h1
        rw [HAt.out k h1] at h2
        exact h2
      clear hc HI HAt HLen
      go_loopw [43] (fun vk wr => Wrote (fun _ _ => False) w2 wr ∧ ∃ k : Nat, k ≤ 2 ∧ vk = .int .i64 k) (fun vk _ => 2 - (intOf vk).toNat)
      case atStart => exact ⟨Wrote.refl _ _, 0, Nat.zero_le _, rfl⟩
      case round =>
        obtain ⟨hwr, k, hk, rfl⟩ := hrel
        have HWr : Hid _ := hwr
        clear hwr
        by_cases hkn : k < 2
        · have hkI : (k : Int) < 2 := by omega
          have hck := (HWr.out.cell b k (fun e => e)).trans (HC.out k hkn)
          have hkst := HQ.out k hkn
          obtain ⟨z, hz⟩ : ∃ z, k * s.size = z := ⟨_, rfl⟩
          have hzI : (k : Int) * (s.size : Int) = (z : Int) := by rw [← hz]; exact (Int.natCast_mul _ _).symm
          rw [hz] at hck hkst
          clear hz
          go_wp2_with fail
          go_roundw
          case rel => exact ⟨HWr.out, k + 1, by omega, by go_num⟩
          case measure => simp [intOf]; omega
        · obtain rfl : k = 2 := by omega
          have T4 : Hid (Tw w wr) := Tw.grow T2.out (HWr.out.below (fun _ _ e => e.elim))
          go_wp2_with fail
          refine Calls.mono (CA.out wr T4.out.tab) ?_; rintro e w5 ⟨rfl, b5⟩
          have T5 : Hid (Tw w w5) := Tw.grow T4.out b5
          clear b5
          go_wp2_with fail
          go_ret
          exact ⟨rfl, T5.out.bel⟩
  · have hb : (300 : Int) < (s.size : Int) ∨ (¬ (300 : Int) < (s.size : Int) ∧ s.size = 0) := by omega
    clear hn
    rcases hb with hnI | ⟨hnI, hnJ⟩
    · go_enter Tryd.func7, Tryd.ntmps7
      go_wp2_with fail
      refine Calls.mono (CA.out w HT.out.tab) ?_; rintro e w1 ⟨rfl, b1⟩
      have T1 : Hid (Tw w w1) := Tw.grow HT.out b1
      clear b1 HT CA
      go_wp2_with fail
      go_ret
      exact ⟨rfl, T1.out.bel⟩
    · obtain rfl := ba_nil hnJ
      clear hs hnI hnJ
      go_enter Tryd.func7, Tryd.ntmps7
      go_wp2_with fail
      refine Calls.mono (CA.out w HT.out.tab) ?_; rintro e w1 ⟨rfl, b1⟩
      have T1 : Hid (Tw w w1) := Tw.grow HT.out b1
      clear b1 HT CA
      go_wp2_with fail
      go_ret
      exact ⟨rfl, T1.out.bel⟩

end Go.Proofs.YtgdjllfolfiboaaDoor.zedWhole
