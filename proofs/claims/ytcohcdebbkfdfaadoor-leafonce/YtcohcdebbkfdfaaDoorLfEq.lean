/- Contracts of slices.Equal of classes, leaf.Same, and of the document's Classes, Same, Places. -/
import Derived.Test.YtcohcdebbkfdfaaDoorLfProg
namespace Go.Proofs.YtcohcdebbkfdfaaDoor
open Go.RowKit
namespace Cls

/-- Are two rows the same? -/
def eqr (P : Nat → Nat → Bool) (n : Nat) (Q : Nat → Nat → Bool) (m : Nat) : Bool := decide (n = m) && (List.range n).all fun t => sm (P t) (Q t)

theorem eqr_len {P Q : Nat → Nat → Bool} {n m : Nat} (h : ¬ n = m) : eqr P n Q m = false := by unfold eqr; rw [decide_eq_false h]; rfl

theorem eqr_yes {P Q : Nat → Nat → Bool} {n : Nat} (h : ∀ t, t < n → sm (P t) (Q t) = true) : eqr P n Q n = true := by unfold eqr; rw [decide_eq_true rfl, all_range h]; rfl

theorem eqr_no {P Q : Nat → Nat → Bool} {n t : Nat} (ht : t < n) (h : sm (P t) (Q t) = false) : eqr P n Q n = false := by unfold eqr; rw [all_range_no ht h]; simp

theorem eqr_refl (P : Nat → Nat → Bool) (n : Nat) : eqr P n P n = true := eqr_yes (fun t _ => sm_refl (P t))

theorem eqr_comm (P Q : Nat → Nat → Bool) (n m : Nat) : eqr P n Q m = eqr Q m P n := by
  by_cases h : n = m
  · subst h
    unfold eqr
    congr 1
    congr 1
    funext t
    exact sm_comm _ _
  · rw [eqr_len h, eqr_len (fun e => h e.symm)]

set_option maxHeartbeats 1000000 in
theorem equal_any (P Q : Nat → Nat → Bool) (n m cap dap : Nat) (ao bo : Option Addr) (w : World) (hl : Lf w ao n P) (hm : Lf w bo m Q) :
    Calls Tryd.prog 38 #[.slice ao n cap, .slice bo m dap] w fun e w' => e = .returned (.bool (eqr P n Q m)) ∧ Below w.heap.size w w' := by
  have HL : Hid _ := hl
  have HM : Hid _ := hm
  have hn := hl.small
  have hn' := hm.small
  clear hl hm
  by_cases he : n = m
  · subst he
    go_enter Tryd.func38, Tryd.ntmps38
    go_wp2_with fail
    go_loopw [13] (fun vk wr => Below w.heap.size w wr ∧ ∃ k : Nat, k ≤ n ∧ vk = .int .i64 k ∧ ∀ t, t < k → sm (P t) (Q t) = true) (fun vk _ => n - (intOf vk).toNat)
    case atStart => exact ⟨Below.refl _ _, 0, Nat.zero_le _, rfl, fun t ht => by omega⟩
    case round =>
      obtain ⟨hbel, k, hk, rfl, hall⟩ := hrel
      have HB : Hid _ := hbel
      have HA : Hid _ := hall
      have HLr : Hid (Lf wr ao n P) := HL.out.grow hbel
      have HMr : Hid (Lf wr bo n Q) := HM.out.grow hbel
      clear hbel hall
      by_cases hkn : k < n
      · obtain ⟨b, o, rfl, hb, hC⟩ := HLr.out.lies (by omega)
        obtain ⟨b', o', rfl, hb', hD⟩ := HMr.out.lies (by omega)
        obtain ⟨c0, c1, c2, c3⟩ := hC.four hkn
        obtain ⟨d0, d1, d2, d3⟩ := hD.four hkn
        have hkI : (k : Int) < (n : Int) := by omega
        clear hC hD
        go_wp2_with fail
        go_quiet (fail)
        have HB3 : Hid (Below w.heap.size w (wr.drewN nq)) := below_drewN HB.out nq
        cases hs : sm (P k) (Q k) with
        | true =>
          have HS : Hid (∀ t, t < k + 1 → sm (P t) (Q t) = true) := fun t ht => by
            by_cases e : t = k
            · subst e; exact hs
            · exact HA.out t (by omega)
          try simp only [hs]
          go_wp2_with fail
          go_roundw
          case rel => exact ⟨HB3.out, k + 1, by omega, by go_num, HS.out⟩
          case measure => simp [intOf]; omega
        | false =>
          have HS : Hid (eqr P n Q n = false) := eqr_no hkn hs
          try simp only [hs]
          go_wp2_with fail
          go_ret
          exact ⟨by rw [HS.out]; rfl, HB3.out⟩
      · obtain rfl : k = n := by omega
        have HY : Hid (eqr P k Q k = true) := eqr_yes HA.out
        go_wp2_with fail
        go_ret
        exact ⟨by rw [HY.out]; rfl, HB.out⟩
  · have HR : Hid _ := eqr_len (P := P) (Q := Q) he
    have h1 : ¬ (n : Int) = (m : Int) := by omega
    go_enter Tryd.func38, Tryd.ntmps38
    go_wp2_with fail
    go_ret
    exact ⟨by rw [HR.out]; rfl, Below.refl _ _⟩

set_option maxHeartbeats 1000000 in
theorem classes_any (P Q : Nat → Nat → Bool) (n m cap dap : Nat) (ao bo : Option Addr) (w : World) (hl : Lf w ao n P) (hm : Lf w bo m Q) :
    Calls Tryd.prog 23 #[.slice ao n cap, .slice bo m dap] w fun e w' => e = .returned (.bool (eqr P n Q m)) ∧ Below w.heap.size w w' := by
  have HL : Hid _ := hl
  have HM : Hid _ := hm
  have hn := hl.small
  have hn' := hm.small
  clear hl hm
  by_cases he : n = m
  · subst he
    go_enter Tryd.func23, Tryd.ntmps23
    go_wp2_with fail
    go_loopw [5] (fun vk wr => Below w.heap.size w wr ∧ ∃ k : Nat, k ≤ n ∧ vk = .int .i64 k ∧ ∀ t, t < k → sm (P t) (Q t) = true) (fun vk _ => n - (intOf vk).toNat)
    case atStart => exact ⟨Below.refl _ _, 0, Nat.zero_le _, rfl, fun t ht => by omega⟩
    case round =>
      obtain ⟨hbel, k, hk, rfl, hall⟩ := hrel
      have HB : Hid _ := hbel
      have HA : Hid _ := hall
      have HLr : Hid (Lf wr ao n P) := HL.out.grow hbel
      have HMr : Hid (Lf wr bo n Q) := HM.out.grow hbel
      clear hbel hall
      by_cases hkn : k < n
      · obtain ⟨b, o, rfl, hb, hC⟩ := HLr.out.lies (by omega)
        obtain ⟨b', o', rfl, hb', hD⟩ := HMr.out.lies (by omega)
        obtain ⟨c0, c1, c2, c3⟩ := hC.four hkn
        obtain ⟨d0, d1, d2, d3⟩ := hD.four hkn
        have hkI : (k : Int) < (n : Int) := by omega
        clear hC hD
        go_wp2_with fail
        go_quiet (fail)
        have HB3 : Hid (Below w.heap.size w (wr.drewN nq)) := below_drewN HB.out nq
        cases hs : sm (P k) (Q k) with
        | true =>
          have HS : Hid (∀ t, t < k + 1 → sm (P t) (Q t) = true) := fun t ht => by
            by_cases e : t = k
            · subst e; exact hs
            · exact HA.out t (by omega)
          try simp only [hs]
          go_wp2_with fail
          go_roundw
          case rel => exact ⟨HB3.out, k + 1, by omega, by go_num, HS.out⟩
          case measure => simp [intOf]; omega
        | false =>
          have HS : Hid (eqr P n Q n = false) := eqr_no hkn hs
          try simp only [hs]
          go_wp2_with fail
          go_ret
          exact ⟨by rw [HS.out]; rfl, HB3.out⟩
      · obtain rfl : k = n := by omega
        have HY : Hid (eqr P k Q k = true) := eqr_yes HA.out
        go_wp2_with fail
        go_ret
        exact ⟨by rw [HY.out]; rfl, HB.out⟩
  · have HR : Hid _ := eqr_len (P := P) (Q := Q) he
    have h1 : ¬ (n : Int) = (m : Int) := by omega
    go_enter Tryd.func23, Tryd.ntmps23
    go_wp2_with fail
    go_ret
    exact ⟨by rw [HR.out]; rfl, Below.refl _ _⟩

/-- Are two leaves the same? -/
def sml (P : Nat → Nat → Bool) (n : Nat) (K : Int) (Q : Nat → Nat → Bool) (m : Nat) (J : Int) : Bool := decide (K = J) && eqr P n Q m

theorem sml_comm (P Q : Nat → Nat → Bool) (n m : Nat) (K J : Int) : sml P n K Q m J = sml Q m J P n K := by
  unfold sml
  rw [eqr_comm, show decide (K = J) = decide (J = K) from decide_eq_decide.2 ⟨Eq.symm, Eq.symm⟩]

theorem sml_refl (P : Nat → Nat → Bool) (n : Nat) (K : Int) : sml P n K P n K = true := by unfold sml; rw [eqr_refl, decide_eq_true rfl]; rfl

set_option maxHeartbeats 1000000 in
theorem same_any (P Q : Nat → Nat → Bool) (n m cap dap : Nat) (ao bo : Option Addr) (K J : Int) (w : World) (hl : Lf w ao n P) (hm : Lf w bo m Q) :
    Calls Tryd.prog 22 #[.agg #[.slice ao n cap, .int .i64 K], .agg #[.slice bo m dap, .int .i64 J]] w fun e w' => e = .returned (.bool (sml P n K Q m J)) ∧ Below w.heap.size w w' := by
  obtain ⟨w1, b1⟩ := lbox w (.slice ao n cap) (.int .i64 K)
  obtain ⟨w2, b2⟩ := lbox w1 (.slice bo m dap) (.int .i64 J)
  have E1 : Hid _ := b1.eq
  have E2 : Hid _ := b2.eq
  have s1 : w.heap.size < w1.heap.size := by have := b1.size; omega
  have B2 : Hid (Below w.heap.size w w2) := b1.bel.trans (b2.bel.mono b1.bel.size)
  obtain ⟨c0, c1⟩ := two_below ⟨b1.c0, b1.c1⟩ b2.bel s1
  have d0 := b2.c0
  have d1 := b2.c1
  have cc : Hid _ := equal_any P Q n m cap dap ao bo w2 ((hl.grow b1.bel).grow b2.bel) ((hm.grow b1.bel).grow b2.bel)
  have HS : Hid (w.heap.size + 1 = w1.heap.size) := b1.size.symm
  clear b1 b2 hl hm
  generalize w1.heap.size = g at *
  by_cases hK : K = J
  · subst hK
    have HQ : Hid (sml P n K Q m K = eqr P n Q m) := by show _ = _; unfold sml; rw [decide_eq_true rfl]; rfl
    go_enter Tryd.func22, Tryd.ntmps22
    go_wp2_with (first | rw [← E1.out, ← E2.out, HS.out])
    refine Calls.mono (Hid.out cc) ?_; rintro e w3 ⟨rfl, b3⟩
    have B3 : Hid (Below w.heap.size w w3) := B2.out.trans (b3.mono B2.out.size)
    clear b3
    go_wp2_with fail
    go_ret
    exact ⟨by rw [HQ.out]; rfl, B3.out⟩
  · have HQ : Hid (sml P n K Q m J = false) := by show _ = _; unfold sml; rw [decide_eq_false hK]; rfl
    have hb : (K == J) = false := by simpa using hK
    go_enter Tryd.func22, Tryd.ntmps22
    go_wp2_with (first | rw [← E1.out, ← E2.out, HS.out])
    go_ret
    exact ⟨by rw [HQ.out]; rfl, B2.out⟩

set_option maxHeartbeats 1000000 in
theorem refSame_any (P Q : Nat → Nat → Bool) (n m cap dap : Nat) (ao bo : Option Addr) (K J : Int) (w : World) (hl : Lf w ao n P) (hm : Lf w bo m Q) :
    Calls Tryd.prog 19 #[.agg #[.slice ao n cap, .int .i64 K], .agg #[.slice bo m dap, .int .i64 J]] w fun e w' => e = .returned (.bool (sml P n K Q m J)) ∧ Below w.heap.size w w' := by
  obtain ⟨w1, b1⟩ := lbox w (.slice ao n cap) (.int .i64 K)
  obtain ⟨w2, b2⟩ := lbox w1 (.slice bo m dap) (.int .i64 J)
  have E1 : Hid _ := b1.eq
  have E2 : Hid _ := b2.eq
  have s1 : w.heap.size < w1.heap.size := by have := b1.size; omega
  have B2 : Hid (Below w.heap.size w w2) := b1.bel.trans (b2.bel.mono b1.bel.size)
  obtain ⟨c0, c1⟩ := two_below ⟨b1.c0, b1.c1⟩ b2.bel s1
  have d0 := b2.c0
  have d1 := b2.c1
  have cc : Hid _ := classes_any P Q n m cap dap ao bo w2 ((hl.grow b1.bel).grow b2.bel) ((hm.grow b1.bel).grow b2.bel)
  have HS : Hid (w.heap.size + 1 = w1.heap.size) := b1.size.symm
  clear b1 b2 hl hm
  generalize w1.heap.size = g at *
  by_cases hK : K = J
  · subst hK
    have HQ : Hid (sml P n K Q m K = eqr P n Q m) := by show _ = _; unfold sml; rw [decide_eq_true rfl]; rfl
    go_enter Tryd.func19, Tryd.ntmps19
    go_wp2_with (first | rw [← E1.out, ← E2.out, HS.out])
    refine Calls.mono (Hid.out cc) ?_; rintro e w3 ⟨rfl, b3⟩
    have B3 : Hid (Below w.heap.size w w3) := B2.out.trans (b3.mono B2.out.size)
    clear b3
    go_wp2_with fail
    go_ret
    exact ⟨by rw [HQ.out]; rfl, B3.out⟩
  · have HQ : Hid (sml P n K Q m J = false) := by show _ = _; unfold sml; rw [decide_eq_false hK]; rfl
    have hb : (K == J) = false := by simpa using hK
    go_enter Tryd.func19, Tryd.ntmps19
    go_wp2_with (first | rw [← E1.out, ← E2.out, HS.out])
    go_ret
    exact ⟨by rw [HQ.out]; rfl, B2.out⟩

end Cls
end Go.Proofs.YtcohcdebbkfdfaaDoor
