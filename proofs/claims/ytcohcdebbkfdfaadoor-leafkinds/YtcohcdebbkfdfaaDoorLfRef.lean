/- Contracts of the document's own answers of layer 7: free, Right, Bound, Plain. -/
import Derived.Test.YtcohcdebbkfdfaaDoorLfProg
import Derived.Test.YtcohcdebbkfdfaaDoorClsA
namespace Go.Proofs.YtcohcdebbkfdfaaDoor
open Go.RowKit
namespace Cls

set_option maxHeartbeats 1000000 in
theorem refFree_any (f : Nat → Bool) (w : World) :
    Calls Tryd.prog 35 #[.agg #[.int .u64 ((wd (f) 0 : Nat) : Int), .int .u64 ((wd (f) 1 : Nat) : Int), .int .u64 ((wd (f) 2 : Nat) : Int), .int .u64 ((wd (f) 3 : Nat) : Int)]] w fun e w' => e = .returned (.bool (fr f)) ∧ Below w.heap.size w w' := by
  obtain ⟨w1, b1⟩ := box w f
  have E1 : Hid _ := b1.eq
  have B1 : Hid (Below w.heap.size w w1) := b1.bel
  obtain ⟨a0, a1, a2, a3⟩ := c4 b1.fam
  have c1 : Hid _ := refSize_any f w1
  have hs : Hid _ := fr_size f
  have hle := cb_le256 f 256
  clear b1
  go_enter Tryd.func35, Tryd.ntmps35
  go_wp2_with (first | rw [← E1.out])
  refine Calls.mono (Hid.out c1) ?_; rintro e w2 ⟨rfl, b2⟩
  have B2 : Hid (Below w.heap.size w w2) := B1.out.trans (b2.mono B1.out.size)
  clear b2
  go_wp2_with fail
  go_ret
  refine ⟨?_, B2.out⟩
  rw [hs.out]
  generalize cb f 0 256 = m
  have : (((m : Nat) : Int) == 256) = (m == 256) := by rw [Bool.eq_iff_iff, beq_iff_eq, beq_iff_eq]; omega
  rw [← this]
  rfl

set_option maxHeartbeats 1000000 in
theorem refRight_any (P : Nat → Nat → Bool) (n cap : Nat) (ao : Option Addr) (K : Int) (w : World) (hl : Lf w ao n P) :
    Calls Tryd.prog 12 #[.agg #[.slice ao n cap, .int .i64 K]] w fun e w' => e = .returned (.bool (rgt P n K)) ∧ Below w.heap.size w w' := by
  obtain ⟨w1, b1⟩ := lbox w (.slice ao n cap) (.int .i64 K)
  have E1 : Hid _ := b1.eq
  have B1 : Hid (Below w.heap.size w w1) := b1.bel
  have hc := b1.c0
  have hd := b1.c1
  have s1 : w.heap.size < w1.heap.size := by have := b1.size; omega
  have HL : Hid (Lf w1 ao n P) := hl.grow b1.bel
  have hn := hl.small
  clear b1 hl
  by_cases h : 1 ≤ n ∧ n ≤ 64 ∧ 0 ≤ K ∧ K ≤ 64
  · have HR : Hid _ := rgt_yes (P := P) h
    obtain ⟨h1, h2, h3, h4⟩ := h
    have q1 : ¬ (n : Int) < 1 := by omega
    have q2 : ¬ (64 : Int) < (n : Int) := by omega
    have q3 : ¬ K < 0 := by omega
    have q4 : ¬ 64 < K := by omega
    have HC : Hid (w1.cell? ⟨w.heap.size, 0, none⟩ = some (.slice ao n cap) ∧ w1.cell? ⟨w.heap.size, 1, none⟩ = some (.int .i64 K)) := ⟨hc, hd⟩
    go_enter Tryd.func12, Tryd.ntmps12
    go_wp2_with (first | rw [← E1.out])
    clear hc hd E1
    go_loopw [3] (fun vk wr => Below w1.heap.size w1 wr ∧ ∃ k : Nat, k ≤ n ∧ vk = .int .i64 k ∧ ∀ t, t < k → sm (P t) (fun _ => false) = false) (fun vk _ => n - (intOf vk).toNat)
    case atStart => exact ⟨Below.refl _ _, 0, Nat.zero_le _, rfl, fun t ht => by omega⟩
    case round =>
      obtain ⟨hbel, k, hk, rfl, hno⟩ := hrel
      have HB : Hid _ := hbel
      have HNO : Hid _ := hno
      have HLr : Hid (Lf wr ao n P) := HL.out.grow hbel
      have hc := (two_below HC.out hbel s1).1
      clear hbel hno
      by_cases hkn : k < n
      · obtain ⟨b, o, rfl, hb, hC⟩ := HLr.out.lies (by omega)
        obtain ⟨c0, c1, c2, c3⟩ := hC.four hkn
        have hkI : (k : Int) < (n : Int) := by omega
        have cc : Hid _ := refSize_any (P k) wr
        have hle := cb_le256 (P k) 256
        have HE : Hid _ := em_size (P k)
        clear hC
        by_cases he : cb (P k) 0 256 = 0
        · have HS : Hid (emp P n = true) := any_range (q := fun t => sm (P t) (fun _ => false)) hkn (by show sm (P k) (fun _ => false) = true; rw [HE.out, he]; rfl)
          rw [he] at cc
          go_wp2_with fail
          refine Calls.mono (Hid.out cc) ?_; rintro e w2 ⟨rfl, b2⟩
          have HB2 : Hid (Below w1.heap.size w1 w2) := HB.out.trans (b2.mono HB.out.size)
          have B2 : Hid (Below w.heap.size w w2) := B1.out.trans (HB2.out.mono B1.out.size)
          clear b2
          go_wp2_with fail
          go_ret
          exact ⟨by rw [HR.out, HS.out]; rfl, B2.out⟩
        · have hne : ¬ ((cb (P k) 0 256 : Nat) : Int) = 0 := by omega
          have hnb : (((cb (P k) 0 256 : Nat) : Int) == 0) = false := by simp; omega
          have HS : Hid (∀ t, t < k + 1 → sm (P t) (fun _ => false) = false) := fun t ht => by
            by_cases e : t = k
            · subst e; rw [HE.out]; simp; omega
            · exact HNO.out t (by omega)
          go_wp2_with fail
          refine Calls.mono (Hid.out cc) ?_; rintro e w2 ⟨rfl, b2⟩
          have HB2 : Hid (Below w1.heap.size w1 w2) := HB.out.trans (b2.mono HB.out.size)
          clear b2
          go_wp2_with fail
          go_roundw
          case rel => exact ⟨HB2.out, k + 1, by omega, by go_num, HS.out⟩
          case measure => simp [intOf]; omega
      · obtain rfl : k = n := by omega
        have B2 : Hid (Below w.heap.size w wr) := B1.out.trans (HB.out.mono B1.out.size)
        have HY : Hid (emp P k = false) := any_range_no HNO.out
        go_wp2_with fail
        go_ret
        exact ⟨by rw [HR.out, HY.out]; rfl, B2.out⟩
  · have HR : Hid _ := rgt_no (P := P) h
    by_cases h1 : 1 ≤ n ∧ n ≤ 64
    · have q1 : ¬ (n : Int) < 1 := by omega
      have q2 : ¬ (64 : Int) < (n : Int) := by omega
      by_cases q3 : K < 0
      · clear h h1
        go_enter Tryd.func12, Tryd.ntmps12
        go_wp2_with (first | rw [← E1.out])
        go_ret
        exact ⟨by rw [HR.out]; rfl, B1.out⟩
      · have q4 : 64 < K := by omega
        clear h h1
        go_enter Tryd.func12, Tryd.ntmps12
        go_wp2_with (first | rw [← E1.out])
        go_ret
        exact ⟨by rw [HR.out]; rfl, B1.out⟩
    · by_cases q1 : (n : Int) < 1
      · clear h h1
        go_enter Tryd.func12, Tryd.ntmps12
        go_wp2_with (first | rw [← E1.out])
        go_ret
        exact ⟨by rw [HR.out]; rfl, B1.out⟩
      · have q2 : (64 : Int) < (n : Int) := by omega
        clear h h1
        go_enter Tryd.func12, Tryd.ntmps12
        go_wp2_with (first | rw [← E1.out])
        go_ret
        exact ⟨by rw [HR.out]; rfl, B1.out⟩

set_option maxHeartbeats 1000000 in
theorem refBound_any (P : Nat → Nat → Bool) (n cap : Nat) (ao : Option Addr) (K : Int) (w : World) (hl : Lf w ao n P) :
    Calls Tryd.prog 16 #[.agg #[.slice ao n cap, .int .i64 K]] w fun e w' => e = .returned (.int .i64 ((bnd P n : Nat) : Int)) ∧ Below w.heap.size w w' := by
  obtain ⟨w1, b1⟩ := lbox w (.slice ao n cap) (.int .i64 K)
  have E1 : Hid _ := b1.eq
  have B1 : Hid (Below w.heap.size w w1) := b1.bel
  have HC : Hid (w1.cell? ⟨w.heap.size, 0, none⟩ = some (.slice ao n cap) ∧ w1.cell? ⟨w.heap.size, 1, none⟩ = some (.int .i64 K)) := ⟨b1.c0, b1.c1⟩
  have s1 : w.heap.size < w1.heap.size := by have := b1.size; omega
  have HL : Hid (Lf w1 ao n P) := hl.grow b1.bel
  have hn := hl.small
  clear b1 hl
  go_enter Tryd.func16, Tryd.ntmps16
  go_wp2_with (first | rw [← E1.out])
  clear E1
  go_loopw [3, 4] (fun vn vk wr => Below w1.heap.size w1 wr ∧ ∃ k : Nat, k ≤ n ∧ vk = .int .i64 k ∧ vn = .int .i64 ((bnd P k : Nat) : Int)) (fun _ vk _ => n - (intOf vk).toNat)
  case atStart => exact ⟨Below.refl _ _, 0, Nat.zero_le _, rfl, rfl⟩
  case round =>
    obtain ⟨hbel, k, hk, rfl, rfl⟩ := hrel
    have HB : Hid _ := hbel
    have HLr : Hid (Lf wr ao n P) := HL.out.grow hbel
    have hc := (two_below HC.out hbel s1).1
    clear hbel
    by_cases hkn : k < n
    · obtain ⟨b, o, rfl, hb, hC⟩ := HLr.out.lies (by omega)
      obtain ⟨c0, c1, c2, c3⟩ := hC.four hkn
      have hkI : (k : Int) < (n : Int) := by omega
      have cc : Hid _ := refFree_any (P k) wr
      have hs : Hid _ := bnd_succ P k
      have hle := bnd_le P k
      clear hC
      cases hf : fr (P k) with
      | true =>
        rw [hf] at cc hs
        go_wp2_with fail
        refine Calls.mono (Hid.out cc) ?_; rintro e w3 ⟨rfl, b3⟩
        have HB3 : Hid (Below w1.heap.size w1 w3) := HB.out.trans (b3.mono HB.out.size)
        clear b3
        go_wp2_with fail
        go_roundw
        case rel => exact ⟨HB3.out, k + 1, by omega, by go_num, by rw [hs.out]; simp⟩
        case measure => simp [intOf]; omega
      | false =>
        rw [hf] at cc hs
        go_wp2_with fail
        refine Calls.mono (Hid.out cc) ?_; rintro e w3 ⟨rfl, b3⟩
        have HB3 : Hid (Below w1.heap.size w1 w3) := HB.out.trans (b3.mono HB.out.size)
        clear b3
        go_wp2_with fail
        go_roundw
        case rel => exact ⟨HB3.out, k + 1, by omega, by go_num, by rw [hs.out]; go_num⟩
        case measure => simp [intOf]; omega
    · obtain rfl : k = n := by omega
      have B2 : Hid (Below w.heap.size w wr) := B1.out.trans (HB.out.mono B1.out.size)
      go_wp2_with fail
      go_ret
      exact ⟨rfl, B2.out⟩

theorem sg_size (f : Nat → Bool) : sg f = (cb f 0 256 == 1) := rfl

set_option maxHeartbeats 1000000 in
theorem refPlain_any (P : Nat → Nat → Bool) (n cap : Nat) (ao : Option Addr) (K : Int) (w : World) (hl : Lf w ao n P) :
    Calls Tryd.prog 14 #[.agg #[.slice ao n cap, .int .i64 K]] w fun e w' => e = .returned (.bool (pln P n)) ∧ Below w.heap.size w w' := by
  obtain ⟨w1, b1⟩ := lbox w (.slice ao n cap) (.int .i64 K)
  have E1 : Hid _ := b1.eq
  have B1 : Hid (Below w.heap.size w w1) := b1.bel
  have HC : Hid (w1.cell? ⟨w.heap.size, 0, none⟩ = some (.slice ao n cap) ∧ w1.cell? ⟨w.heap.size, 1, none⟩ = some (.int .i64 K)) := ⟨b1.c0, b1.c1⟩
  have s1 : w.heap.size < w1.heap.size := by have := b1.size; omega
  have HL : Hid (Lf w1 ao n P) := hl.grow b1.bel
  have hn := hl.small
  clear b1 hl
  go_enter Tryd.func14, Tryd.ntmps14
  go_wp2_with (first | rw [← E1.out])
  clear E1
  go_loopw [3] (fun vk wr => Below w1.heap.size w1 wr ∧ ∃ k : Nat, k ≤ n ∧ vk = .int .i64 k ∧ ∀ t, t < k → (sg (P t) || fr (P t)) = true) (fun vk _ => n - (intOf vk).toNat)
  case atStart => exact ⟨Below.refl _ _, 0, Nat.zero_le _, rfl, fun t ht => by omega⟩
  case round =>
    obtain ⟨hbel, k, hk, rfl, hall⟩ := hrel
    have HB : Hid _ := hbel
    have HA : Hid _ := hall
    have HLr : Hid (Lf wr ao n P) := HL.out.grow hbel
    have hc := (two_below HC.out hbel s1).1
    have HCr : Hid _ := two_below HC.out hbel s1
    clear hbel hall
    by_cases hkn : k < n
    · obtain ⟨b, o, rfl, hb, hC⟩ := HLr.out.lies (by omega)
      obtain ⟨c0, c1, c2, c3⟩ := hC.four hkn
      have hkI : (k : Int) < (n : Int) := by omega
      have cs : Hid _ := refSize_any (P k) wr
      have hle := cb_le256 (P k) 256
      have HS : (sg (P k) || fr (P k)) = true → Hid (∀ t, t < k + 1 → (sg (P t) || fr (P t)) = true) := fun h t ht => by
        by_cases e : t = k
        · subst e; exact h
        · exact HA.out t (by omega)
      have HN : (sg (P k) || fr (P k)) = false → Hid (pln P n = false) := fun h => all_range_no (q := fun t => sg (P t) || fr (P t)) hkn h
      have hC2 : Hid (Cl wr b o n P) := hC
      have hsw : w.heap.size < wr.heap.size := Nat.lt_of_lt_of_le s1 HB.out.size
      clear hC
      by_cases hg : cb (P k) 0 256 = 1
      · have HS' := HS (by rw [sg_size, hg]; rfl)
        rw [hg] at cs
        clear HS HN
        go_wp2_with fail
        refine Calls.mono (Hid.out cs) ?_; rintro e w3 ⟨rfl, b3⟩
        have HB3 : Hid (Below w1.heap.size w1 w3) := HB.out.trans (b3.mono HB.out.size)
        clear b3
        go_wp2_with fail
        go_roundw
        case rel => exact ⟨HB3.out, k + 1, by omega, by go_num, HS'.out⟩
        case measure => simp [intOf]; omega
      · have hg1 : ¬ ((cb (P k) 0 256 : Nat) : Int) = 1 := by omega
        have hg2 : (((cb (P k) 0 256 : Nat) : Int) == 1) = false := by simp; omega
        have hg3 : sg (P k) = false := by rw [sg_size]; simp; omega
        rw [hg3] at HS HN
        go_wp2_with fail
        refine Calls.mono (Hid.out cs) ?_; rintro e w3 ⟨rfl, b3⟩
        have HB3 : Hid (Below w1.heap.size w1 w3) := HB.out.trans (b3.mono HB.out.size)
        have cf : Hid _ := refFree_any (P k) w3
        have hc3 := (two_below HCr.out b3 hsw).1
        obtain ⟨d0, d1, d2, d3⟩ := (hC2.out.below b3 hb).four hkn
        clear b3 c0 c1 c2 c3 hc
        cases hf : fr (P k) with
        | true =>
          rw [hf] at cf HS
          have HS' := HS rfl
          clear HS HN
          go_wp2_with fail
          refine Calls.mono (Hid.out cf) ?_; rintro e w4 ⟨rfl, b4⟩
          have HB4 : Hid (Below w1.heap.size w1 w4) := HB3.out.trans (b4.mono HB3.out.size)
          clear b4
          go_wp2_with fail
          go_roundw
          case rel => exact ⟨HB4.out, k + 1, by omega, by go_num, HS'.out⟩
          case measure => simp [intOf]; omega
        | false =>
          rw [hf] at cf HN
          have HN' := HN rfl
          clear HS HN
          go_wp2_with fail
          refine Calls.mono (Hid.out cf) ?_; rintro e w4 ⟨rfl, b4⟩
          have HB4 : Hid (Below w1.heap.size w1 w4) := HB3.out.trans (b4.mono HB3.out.size)
          have B4 : Hid (Below w.heap.size w w4) := B1.out.trans (HB4.out.mono B1.out.size)
          clear b4
          go_wp2_with fail
          go_ret
          exact ⟨by rw [HN'.out]; rfl, B4.out⟩
    · obtain rfl : k = n := by omega
      have B2 : Hid (Below w.heap.size w wr) := B1.out.trans (HB.out.mono B1.out.size)
      have HY : Hid (pln P k = true) := all_range HA.out
      go_wp2_with fail
      go_ret
      exact ⟨by rw [HY.out]; rfl, B2.out⟩

end Cls
end Go.Proofs.YtcohcdebbkfdfaaDoor
