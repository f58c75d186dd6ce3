/- Contracts of leaf.free, leaf.Right, leaf.Bound, leaf.Plain. -/
import Derived.Test.YtcohcdebbkfdfaaDoorLfIdx
import Derived.Test.YtcohcdebbkfdfaaDoorClsA
namespace Go.Proofs.YtcohcdebbkfdfaaDoor
open Go.RowKit
namespace Cls

set_option maxHeartbeats 1000000 in
theorem free_any (f : Nat → Bool) (w : World) :
    Calls Tryd.prog 34 #[.agg #[.int .u64 ((wd (f) 0 : Nat) : Int), .int .u64 ((wd (f) 1 : Nat) : Int), .int .u64 ((wd (f) 2 : Nat) : Int), .int .u64 ((wd (f) 3 : Nat) : Int)]] w fun e w' => e = .returned (.bool (fr f)) ∧ Below w.heap.size w w' := by
  obtain ⟨w1, b1⟩ := box w f
  have E1 : Hid _ := b1.eq
  have B1 : Hid (Below w.heap.size w w1) := b1.bel
  have F1 : Hid (Fam w1 w.heap.size 0 4 (wi f)) := b1.fam
  have s1 : w.heap.size < w1.heap.size := by have := b1.size; omega
  obtain ⟨a0, a1, a2, a3⟩ := c4 b1.fam
  clear b1
  go_enter Tryd.func34, Tryd.ntmps34
  go_wp2_with fail
  rw [← E1.out]
  clear E1
  go_region_held3 (fun w' => w'.cell? ⟨w.heap.size, 0, none⟩ = some (.int .u64 ((wd f 0 : Nat) : Int)) ∧ w'.cell? ⟨w.heap.size, 1, none⟩ = some (.int .u64 ((wd f 1 : Nat) : Int)) ∧ w'.cell? ⟨w.heap.size, 2, none⟩ = some (.int .u64 ((wd f 2 : Nat) : Int)) ∧ w'.cell? ⟨w.heap.size, 3, none⟩ = some (.int .u64 ((wd f 3 : Nat) : Int))) (go_keep)
    (first | (go_at_call 30; refine (full_any _).mono ?_; rintro e w3 ⟨rfl, b3⟩; have b3' : Below w1.heap.size w1 w3 := undrew b3; have B3 : Hid (Below w.heap.size w w3) := B1.out.trans (b3'.mono B1.out.size); obtain ⟨m0, m1, m2, m3⟩ := c4 (Fam.below (show Fam w1 w.heap.size 0 4 (wi f) from F1.out) b3' s1); clear b3 b3'))
  go_wp2_with fail
  go_ret
  exact ⟨rfl, B3.out⟩

theorem rgt_no {P : Nat → Nat → Bool} {n : Nat} {K : Int} (h : ¬ (1 ≤ n ∧ n ≤ 64 ∧ 0 ≤ K ∧ K ≤ 64)) : rgt P n K = false := by unfold rgt; rw [decide_eq_false h]; rfl

theorem rgt_yes {P : Nat → Nat → Bool} {n : Nat} {K : Int} (h : 1 ≤ n ∧ n ≤ 64 ∧ 0 ≤ K ∧ K ≤ 64) : rgt P n K = !emp P n := by unfold rgt; rw [decide_eq_true h]; rfl

set_option maxHeartbeats 1000000 in
theorem right_any (P : Nat → Nat → Bool) (n cap : Nat) (ao : Option Addr) (K : Int) (w : World) (hl : Lf w ao n P) :
    Calls Tryd.prog 11 #[.agg #[.slice ao n cap, .int .i64 K]] w fun e w' => e = .returned (.bool (rgt P n K)) ∧ Below w.heap.size w w' := by
  obtain ⟨w1, b1⟩ := lbox w (.slice ao n cap) (.int .i64 K)
  have E1 : Hid _ := b1.eq
  have B1 : Hid (Below w.heap.size w w1) := b1.bel
  have c0 := b1.c0
  have c1 := b1.c1
  have cc : Hid _ := contains_none P n cap ao w1 (hl.grow b1.bel)
  have hn := hl.small
  clear b1 hl
  by_cases h : 1 ≤ n ∧ n ≤ 64 ∧ 0 ≤ K ∧ K ≤ 64
  · have HR : Hid _ := rgt_yes (P := P) h
    obtain ⟨h1, h2, h3, h4⟩ := h
    have q1 : ¬ (n : Int) < 1 := by omega
    have q2 : ¬ (64 : Int) < (n : Int) := by omega
    have q3 : ¬ K < 0 := by omega
    have q4 : ¬ 64 < K := by omega
    go_enter Tryd.func11, Tryd.ntmps11
    go_wp2_with (first | rw [← E1.out])
    refine Calls.mono (Hid.out cc) ?_; rintro e w2 ⟨rfl, b2⟩
    have B2 : Hid (Below w.heap.size w w2) := B1.out.trans (b2.mono B1.out.size)
    clear b2
    go_wp2_with fail
    go_ret
    exact ⟨by rw [HR.out]; rfl, B2.out⟩
  · have HR : Hid _ := rgt_no (P := P) h
    by_cases h1 : 1 ≤ n ∧ n ≤ 64
    · have q1 : ¬ (n : Int) < 1 := by omega
      have q2 : ¬ (64 : Int) < (n : Int) := by omega
      have q3 : K < 0 ∨ 64 < K := by omega
      clear h h1
      go_enter Tryd.func11, Tryd.ntmps11
      go_wp2_with (first | rw [← E1.out])
      all_goals
        go_ret
        exact ⟨by rw [HR.out]; rfl, B1.out⟩
    · have q1 : (n : Int) < 1 ∨ 64 < (n : Int) := by omega
      clear h h1
      go_enter Tryd.func11, Tryd.ntmps11
      go_wp2_with (first | rw [← E1.out])
      all_goals
        go_ret
        exact ⟨by rw [HR.out]; rfl, B1.out⟩

set_option maxHeartbeats 1000000 in
theorem bound_any (P : Nat → Nat → Bool) (n cap : Nat) (ao : Option Addr) (K : Int) (w : World) (hl : Lf w ao n P) :
    Calls Tryd.prog 15 #[.agg #[.slice ao n cap, .int .i64 K]] w fun e w' => e = .returned (.int .i64 ((bnd P n : Nat) : Int)) ∧ Below w.heap.size w w' := by
  obtain ⟨w1, b1⟩ := lbox w (.slice ao n cap) (.int .i64 K)
  have E1 : Hid _ := b1.eq
  have B1 : Hid (Below w.heap.size w w1) := b1.bel
  have c0 := b1.c0
  have HL : Hid (Lf w1 ao n P) := hl.grow b1.bel
  have hn := hl.small
  clear b1 hl
  go_enter Tryd.func15, Tryd.ntmps15
  go_wp2_with (first | rw [← E1.out])
  clear E1 c0
  go_loopw [3, 9] (fun vn vk wr => Below w1.heap.size w1 wr ∧ ∃ k : Nat, k ≤ n ∧ vk = .int .i64 k ∧ vn = .int .i64 ((bnd P k : Nat) : Int)) (fun _ vk _ => n - (intOf vk).toNat)
  case atStart => exact ⟨Below.refl _ _, 0, Nat.zero_le _, rfl, rfl⟩
  case round =>
    obtain ⟨hbel, k, hk, rfl, rfl⟩ := hrel
    have HB : Hid _ := hbel
    have HLr : Hid (Lf wr ao n P) := HL.out.grow hbel
    clear hbel
    by_cases hkn : k < n
    · obtain ⟨b, o, rfl, hb, hC⟩ := HLr.out.lies (by omega)
      obtain ⟨c0, c1, c2, c3⟩ := hC.four hkn
      have hkI : (k : Int) < (n : Int) := by omega
      obtain ⟨w2, b2⟩ := box wr (P k)
      have E2 : Hid _ := b2.eq
      have HB2 : Hid (Below w1.heap.size w1 w2) := HB.out.trans (b2.bel.mono HB.out.size)
      obtain ⟨a0, a1, a2, a3⟩ := c4 b2.fam
      have cc : Hid _ := free_any (P k) w2
      have hs : Hid _ := bnd_succ P k
      have hle := bnd_le P k
      clear hC b2
      cases hf : fr (P k) with
      | true =>
        rw [hf] at cc hs
        go_wp2_with (first | rw [← E2.out])
        refine Calls.mono (Hid.out cc) ?_; rintro e w3 ⟨rfl, b3⟩
        have HB3 : Hid (Below w1.heap.size w1 w3) := HB2.out.trans (b3.mono HB2.out.size)
        clear b3
        go_wp2_with fail
        go_roundw
        case rel => exact ⟨HB3.out, k + 1, by omega, by go_num, by rw [hs.out]; simp⟩
        case measure => simp [intOf]; omega
      | false =>
        rw [hf] at cc hs
        go_wp2_with (first | rw [← E2.out])
        refine Calls.mono (Hid.out cc) ?_; rintro e w3 ⟨rfl, b3⟩
        have HB3 : Hid (Below w1.heap.size w1 w3) := HB2.out.trans (b3.mono HB2.out.size)
        clear b3
        go_wp2_with fail
        go_roundw
        case rel => exact ⟨HB3.out, k + 1, by omega, by go_num, by rw [hs.out]; go_num⟩
        case measure => simp [intOf]; omega
    · obtain rfl : k = n := by omega
      have B2 : Hid (Below w.heap.size w wr) := B1.out.trans (HB.out.mono B1.out.size)
      go_wp2_with fail
      go_ret
      exact ⟨rfl, B2.out⟩

theorem single_sg (f : Nat → Bool) (w : World) (hT : TabB w) :
    Calls Tryd.prog 33 #[.agg #[.int .u64 ((wd (f) 0 : Nat) : Int), .int .u64 ((wd (f) 1 : Nat) : Int), .int .u64 ((wd (f) 2 : Nat) : Int), .int .u64 ((wd (f) 3 : Nat) : Int)]] w fun e w' => e = .returned (.tuple #[.int .u8 ((bt f : Nat) : Int), .bool (sg f)]) ∧ Below w.heap.size w w' := by
  refine (single_any f w hT).mono ?_
  rintro e w' ⟨⟨b, t, hs, _, rfl⟩, hb⟩
  obtain ⟨rfl, rfl⟩ := sgl_eq hs
  exact ⟨rfl, hb⟩

set_option maxHeartbeats 1000000 in
theorem plain_any (P : Nat → Nat → Bool) (n cap : Nat) (ao : Option Addr) (K : Int) (w : World) (hT : TabB w) (hl : Lf w ao n P) :
    Calls Tryd.prog 13 #[.agg #[.slice ao n cap, .int .i64 K]] w fun e w' => e = .returned (.bool (pln P n)) ∧ Below w.heap.size w w' := by
  obtain ⟨w1, b1⟩ := lbox w (.slice ao n cap) (.int .i64 K)
  have E1 : Hid _ := b1.eq
  have B1 : Hid (Below w.heap.size w w1) := b1.bel
  have c0 := b1.c0
  have HL : Hid (Lf w1 ao n P) := hl.grow b1.bel
  have HT : Hid (TabB w1) := hT.grow b1.bel
  have hn := hl.small
  clear b1 hl hT
  go_enter Tryd.func13, Tryd.ntmps13
  go_wp2_with (first | rw [← E1.out])
  clear E1 c0
  go_loopw [10] (fun vk wr => Below w1.heap.size w1 wr ∧ ∃ k : Nat, k ≤ n ∧ vk = .int .i64 k ∧ ∀ t, t < k → (sg (P t) || fr (P t)) = true) (fun vk _ => n - (intOf vk).toNat)
  case atStart => exact ⟨Below.refl _ _, 0, Nat.zero_le _, rfl, fun t ht => by omega⟩
  case round =>
    obtain ⟨hbel, k, hk, rfl, hall⟩ := hrel
    have HB : Hid _ := hbel
    have HA : Hid _ := hall
    have HLr : Hid (Lf wr ao n P) := HL.out.grow hbel
    have HTr : Hid (TabB wr) := HT.out.grow hbel
    clear hbel hall
    by_cases hkn : k < n
    · obtain ⟨b, o, rfl, hb, hC⟩ := HLr.out.lies (by omega)
      obtain ⟨c0, c1, c2, c3⟩ := hC.four hkn
      have hkI : (k : Int) < (n : Int) := by omega
      obtain ⟨w2, b2⟩ := box wr (P k)
      have E2 : Hid _ := b2.eq
      have HB2 : Hid (Below w1.heap.size w1 w2) := HB.out.trans (b2.bel.mono HB.out.size)
      have F2 : Hid (Fam w2 wr.heap.size 0 4 (wi (P k))) := b2.fam
      obtain ⟨a0, a1, a2, a3⟩ := c4 b2.fam
      have cs : Hid _ := single_sg (P k) w2 (HTr.out.grow b2.bel)
      have HS : (sg (P k) || fr (P k)) = true → Hid (∀ t, t < k + 1 → (sg (P t) || fr (P t)) = true) := fun h t ht => by
        by_cases e : t = k
        · subst e; exact h
        · exact HA.out t (by omega)
      have HN : (sg (P k) || fr (P k)) = false → Hid (pln P n = false) := fun h => all_range_no (q := fun t => sg (P t) || fr (P t)) hkn h
      clear hC b2
      cases hg : sg (P k) with
      | true =>
        rw [hg] at cs
        have HS' := HS (by rw [hg]; rfl)
        clear HS HN
        go_wp2_with (first | rw [← E2.out])
        refine Calls.mono (Hid.out cs) ?_; rintro e w3 ⟨rfl, b3⟩
        have HB3 : Hid (Below w1.heap.size w1 w3) := HB2.out.trans (b3.mono HB2.out.size)
        clear b3
        go_wp2_with fail
        go_roundw
        case rel => exact ⟨HB3.out, k + 1, by omega, by go_num, HS'.out⟩
        case measure => simp [intOf]; omega
      | false =>
        rw [hg] at cs HS HN
        go_wp2_with (first | rw [← E2.out])
        refine Calls.mono (Hid.out cs) ?_; rintro e w3 ⟨rfl, b3⟩
        have HB3 : Hid (Below w1.heap.size w1 w3) := HB2.out.trans (b3.mono HB2.out.size)
        have F3 : Hid (Fam w3 wr.heap.size 0 4 (wi (P k))) := Fam.below F2.out b3 (Fam.lt F2.out (by omega))
        have cf : Hid _ := free_any (P k) w3
        clear b3 a0 a1 a2 a3
        obtain ⟨a0, a1, a2, a3⟩ := c4 F3.out
        cases hf : fr (P k) with
        | true =>
          rw [hf] at cf HS
          have HS' := HS rfl
          clear HS HN
          go_wp2_with fail
          refine Calls.mono (Hid.out cf) ?_; rintro e w4 ⟨rfl, b4⟩
          have HB4 : Hid (Below w1.heap.size w1 w4) := HB3.out.trans (b4.mono HB3.out.size)
          clear b4
          go_wp2_with fail
          go_roundw
          case rel => exact ⟨HB4.out, k + 1, by omega, by go_num, HS'.out⟩
          case measure => simp [intOf]; omega
        | false =>
          rw [hf] at cf HN
          have HN' := HN rfl
          clear HS HN
          go_wp2_with fail
          refine Calls.mono (Hid.out cf) ?_; rintro e w4 ⟨rfl, b4⟩
          have HB4 : Hid (Below w1.heap.size w1 w4) := HB3.out.trans (b4.mono HB3.out.size)
          have B4 : Hid (Below w.heap.size w w4) := B1.out.trans (HB4.out.mono B1.out.size)
          clear b4
          go_wp2_with fail
          go_ret
          exact ⟨by rw [HN'.out]; rfl, B4.out⟩
    · obtain rfl : k = n := by omega
      have B2 : Hid (Below w.heap.size w wr) := B1.out.trans (HB.out.mono B1.out.size)
      have HY : Hid (pln P k = true) := all_range HA.out
      go_wp2_with fail
      go_ret
      exact ⟨by rw [HY.out]; rfl, B2.out⟩

end Cls
end Go.Proofs.YtcohcdebbkfdfaaDoor
