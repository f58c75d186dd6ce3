/- Contracts of the document's own answers of layer 10: Value, Weight, Size. -/
import Derived.Test.YtbojmkkpgglhhaaDoorWdDef
import Derived.Test.YtbojmkkpgglhhaaDoorWdProg
import Derived.Test.YtbojmkkpgglhhaaDoorClsA
import Derived.Test.YtbojmkkpgglhhaaDoorLfA
import Derived.Test.YtbojmkkpgglhhaaDoorBlkA
import Derived.Test.YtbojmkkpgglhhaaDoorNttLog
namespace Go.Proofs.YtbojmkkpgglhhaaDoor
open Go.RowKit Res
namespace Cls

set_option maxHeartbeats 1000000 in
theorem refValue_any (f : Nat → Bool) (w : World) :
    Calls Tryd.prog 12 #[.agg #[.int .u64 ((wd (f) 0 : Nat) : Int), .int .u64 ((wd (f) 1 : Nat) : Int), .int .u64 ((wd (f) 2 : Nat) : Int), .int .u64 ((wd (f) 3 : Nat) : Int)]] w fun e w' => e = .returned (.int .u64 ((vl f : Nat) : Int)) ∧ Below w.heap.size w w' := by
  obtain ⟨w1, b1⟩ := box w f
  have E1 : Hid _ := b1.eq
  have B1 : Hid (Below w.heap.size w w1) := b1.bel
  obtain ⟨a0, a1, a2, a3⟩ := c4 b1.fam
  have cs : Hid _ := refSingle_sg f w1
  have hb := bt_lt f
  clear b1
  cases hs : sg f with
  | true =>
    have HV : Hid (vl f = bt f + 1) := vl_one hs
    rw [hs] at cs
    go_enter Tryd.func12, Tryd.ntmps12
    go_wp2_with (first | rw [← E1.out])
    refine Calls.mono (Hid.out cs) ?_; rintro e w2 ⟨rfl, b2⟩
    have B2 : Hid (Below w.heap.size w w2) := B1.out.trans (b2.mono B1.out.size)
    clear b2 a0 a1 a2 a3
    go_wp2_with fail
    go_ret
    exact ⟨by rw [HV.out]; go_num, B2.out⟩
  | false =>
    have HV : Hid (vl f = 0) := vl_none hs
    rw [hs] at cs
    go_enter Tryd.func12, Tryd.ntmps12
    go_wp2_with (first | rw [← E1.out])
    refine Calls.mono (Hid.out cs) ?_; rintro e w2 ⟨rfl, b2⟩
    have B2 : Hid (Below w.heap.size w w2) := B1.out.trans (b2.mono B1.out.size)
    clear b2 a0 a1 a2 a3
    go_wp2_with fail
    go_ret
    exact ⟨by rw [HV.out]; rfl, B2.out⟩

set_option maxHeartbeats 2000000 in
theorem refWeight_any (P : Nat → Nat → Bool) (n cap : Nat) (ao : Option Addr) (K : Int) (hn : n ≤ 1000000) (w : World) (hl : Lf w ao n P) :
    Calls Tryd.prog 14 #[.agg #[.slice ao n cap, .int .i64 K]] w fun e w' => e = .returned (.int .u64 (wg P n)) ∧ Below w.heap.size w w' := by
  obtain ⟨w1, b1⟩ := lbox w (.slice ao n cap) (.int .i64 K)
  have E1 : Hid _ := b1.eq
  have B1 : Hid (Below w.heap.size w w1) := b1.bel
  have s1 : w.heap.size < w1.heap.size := by have := b1.size; omega
  have HC : Hid (w1.cell? ⟨w.heap.size, 0, none⟩ = some (.slice ao n cap) ∧ w1.cell? ⟨w.heap.size, 1, none⟩ = some (.int .i64 K)) := ⟨b1.c0, b1.c1⟩
  have HL : Hid (Lf w1 ao n P) := hl.grow b1.bel
  have HW0 : Hid _ := wg_zero P
  have HV : Hid (∀ t, ((vl (P t) : Nat) : Int) ≤ 256) := fun t => by have := vl_le (P t); omega
  clear b1 hl
  go_enter Tryd.func14, Tryd.ntmps14
  go_wp2_with (first | rw [← E1.out])
  clear E1
  go_loopw [3, 4] (fun va vk wr => Below w1.heap.size w1 wr ∧ ∃ k : Nat, k ≤ n ∧ vk = .int .i64 k ∧ va = .int .u64 (wg P k)) (fun _ vk _ => n - (intOf vk).toNat)
  case atStart => exact ⟨Below.refl _ _, 0, Nat.zero_le _, rfl, by rw [HW0.out]⟩
  case round =>
    obtain ⟨hbel, k, hk, rfl, rfl⟩ := hrel
    have HB : Hid _ := hbel
    have HLr : Hid (Lf wr ao n P) := HL.out.grow hbel
    have hc := (two_below HC.out hbel s1).1
    clear hbel
    by_cases hkn : k < n
    · obtain ⟨b, o, rfl, hb, hC⟩ := HLr.out.lies (by omega)
      obtain ⟨c0, c1, c2, c3⟩ := hC.four hkn
      have hkI : (k : Int) < (n : Int) := by omega
      have cv : Hid _ := refValue_any (P k) wr
      have hv := HV.out k
      have hv0 : (0 : Int) ≤ ((vl (P k) : Nat) : Int) := by omega
      obtain ⟨g0, g1⟩ := sq_le hv0 hv
      obtain ⟨q0, q1⟩ := cube_le hv0 hv
      obtain ⟨r0, r1⟩ := wg_le P k
      have HS : Hid _ := wg_succ P k
      clear hC
      generalize ((vl (P k) : Nat) : Int) = a at *
      generalize wg P k = G at *
      go_wp2_with fail
      refine Calls.mono (Hid.out cv) ?_; rintro e w3 ⟨rfl, b3⟩
      have HB3 : Hid (Below w1.heap.size w1 w3) := HB.out.trans (b3.mono HB.out.size)
      clear b3 hc c0 c1 c2 c3
      go_wp2_with fail
      go_roundw
      case rel => exact ⟨HB3.out, k + 1, by omega, by go_num, by rw [HS.out]⟩
      case measure => simp [intOf]; omega
    · obtain rfl : k = n := by omega
      have B2 : Hid (Below w.heap.size w wr) := B1.out.trans (HB.out.mono B1.out.size)
      go_wp2_with fail
      go_ret
      exact ⟨rfl, B2.out⟩

set_option maxHeartbeats 1000000 in
theorem refSize10_any (n m : Nat) (z : Int) (w : World) :
    Calls Tryd.prog 37 #[.int .i64 (n : Int), .int .i64 (m : Int), .int .i64 z] w fun e w' => e = .returned (.bool (decide (n ≤ m) && !szb n z)) ∧ w' = w := by
  by_cases hp : ∃ l : Nat, l ≤ 12 ∧ z = 2 ^ l
  · obtain ⟨l, hl, hz⟩ := hp
    have cl : Hid _ := refLog_yes z l hl hz w
    by_cases hzn : (n : Int) ≤ z
    · have hs : szb n z = true := szb_of hl hz hzn
      have hq : ¬ z < (n : Int) := by omega
      rw [hs]
      clear hz hs
      by_cases hnm : n ≤ m
      · have hI : (n : Int) ≤ (m : Int) := by omega
        rw [decide_eq_true hnm]
        go_enter Tryd.func37, Tryd.ntmps37
        go_wp2_with fail
        refine Calls.mono (Hid.out cl) ?_; rintro e w' ⟨rfl, hw'⟩; subst w'
        go_wp2_with fail
        go_ret
        exact ⟨by first | rfl | (show Ending.returned (Value.bool (decide (z < (n : Int)))) = _; rw [show decide (z < (n : Int)) = false from decide_eq_false (by omega)]; rfl) | (show Ending.returned (Value.bool (decide (z < (n : Int)))) = _; rw [show decide (z < (n : Int)) = true from decide_eq_true (by omega)]; rfl), rfl⟩
      · have hI : ¬ (n : Int) ≤ (m : Int) := by omega
        rw [decide_eq_false hnm]
        go_enter Tryd.func37, Tryd.ntmps37
        go_wp2_with fail
        refine Calls.mono (Hid.out cl) ?_; rintro e w' ⟨rfl, hw'⟩; subst w'
        go_wp2_with fail
        go_ret
        exact ⟨by first | rfl | (show Ending.returned (Value.bool (decide (z < (n : Int)))) = _; rw [show decide (z < (n : Int)) = false from decide_eq_false (by omega)]; rfl) | (show Ending.returned (Value.bool (decide (z < (n : Int)))) = _; rw [show decide (z < (n : Int)) = true from decide_eq_true (by omega)]; rfl), rfl⟩
    · have hs : szb n z = false := by
        cases h : szb n z with
        | false => rfl
        | true => obtain ⟨_, _, _, h4⟩ := szb_yes h; omega
      have hq : z < (n : Int) := by omega
      rw [hs]
      clear hz hs
      by_cases hnm : n ≤ m
      · have hI : (n : Int) ≤ (m : Int) := by omega
        rw [decide_eq_true hnm]
        go_enter Tryd.func37, Tryd.ntmps37
        go_wp2_with fail
        refine Calls.mono (Hid.out cl) ?_; rintro e w' ⟨rfl, hw'⟩; subst w'
        go_wp2_with fail
        go_ret
        exact ⟨by first | rfl | (show Ending.returned (Value.bool (decide (z < (n : Int)))) = _; rw [show decide (z < (n : Int)) = false from decide_eq_false (by omega)]; rfl) | (show Ending.returned (Value.bool (decide (z < (n : Int)))) = _; rw [show decide (z < (n : Int)) = true from decide_eq_true (by omega)]; rfl), rfl⟩
      · have hI : ¬ (n : Int) ≤ (m : Int) := by omega
        rw [decide_eq_false hnm]
        go_enter Tryd.func37, Tryd.ntmps37
        go_wp2_with fail
        refine Calls.mono (Hid.out cl) ?_; rintro e w' ⟨rfl, hw'⟩; subst w'
        go_wp2_with fail
        go_ret
        exact ⟨by first | rfl | (show Ending.returned (Value.bool (decide (z < (n : Int)))) = _; rw [show decide (z < (n : Int)) = false from decide_eq_false (by omega)]; rfl) | (show Ending.returned (Value.bool (decide (z < (n : Int)))) = _; rw [show decide (z < (n : Int)) = true from decide_eq_true (by omega)]; rfl), rfl⟩
  · have cl : Hid _ := refLog_no z (fun l hl hz => hp ⟨l, hl, hz⟩) w
    have hs : szb n z = false := by
      cases h : szb n z with
      | false => rfl
      | true => obtain ⟨l, h2, h3, h4⟩ := szb_yes h; exact absurd ⟨l, h2, h3⟩ hp
    rw [hs]
    clear hs hp
    by_cases hnm : n ≤ m
    · have hI : (n : Int) ≤ (m : Int) := by omega
      rw [decide_eq_true hnm]
      go_enter Tryd.func37, Tryd.ntmps37
      go_wp2_with fail
      refine Calls.mono (Hid.out cl) ?_; rintro e w' ⟨rfl, hw'⟩; subst w'
      go_wp2_with fail
      go_ret
      exact ⟨by first | rfl | (show Ending.returned (Value.bool (decide (z < (n : Int)))) = _; rw [show decide (z < (n : Int)) = false from decide_eq_false (by omega)]; rfl) | (show Ending.returned (Value.bool (decide (z < (n : Int)))) = _; rw [show decide (z < (n : Int)) = true from decide_eq_true (by omega)]; rfl), rfl⟩
    · have hI : ¬ (n : Int) ≤ (m : Int) := by omega
      rw [decide_eq_false hnm]
      go_enter Tryd.func37, Tryd.ntmps37
      go_wp2_with fail
      refine Calls.mono (Hid.out cl) ?_; rintro e w' ⟨rfl, hw'⟩; subst w'
      go_wp2_with fail
      go_ret
      exact ⟨by first | rfl | (show Ending.returned (Value.bool (decide (z < (n : Int)))) = _; rw [show decide (z < (n : Int)) = false from decide_eq_false (by omega)]; rfl) | (show Ending.returned (Value.bool (decide (z < (n : Int)))) = _; rw [show decide (z < (n : Int)) = true from decide_eq_true (by omega)]; rfl), rfl⟩

end Cls
end Go.Proofs.YtbojmkkpgglhhaaDoor
