/- Contracts of crt.Parts, crt.Mixed and crt.Join. -/
import Derived.Test.YtlkooihjcdgcjaaDoorCrtInv
import Derived.Test.YtlkooihjcdgcjaaDoorCrtDig
import Derived.Test.YtlkooihjcdgcjaaDoorCrtNum
namespace Go.Proofs.YtlkooihjcdgcjaaDoor
open Go.RowKit Res

set_option maxHeartbeats 1000000 in
theorem parts_any (n : Int) (hn : 0 ≤ n) (w : World) (hT : Tab w) :
    Calls Tryd.prog 18 #[.int .u64 n] w fun e w' => e = .returned (.agg #[.int .u64 (md 0 n), .int .u64 (md 1 n), .int .u64 (md 2 n)]) ∧ Below w.heap.size w w' := by
  obtain ⟨w1, b1⟩ := box3 w 0 0 0 23
  obtain ⟨w2, b2⟩ := box3 w1 0 0 0 23
  have T2 := b2.tab (b1.tab hT)
  have hlt := tab_lt hT
  have E1 : Hid _ := b1.eq
  have E2 : Hid _ := b2.eq
  have s1 : w.heap.size < w1.heap.size := by have := b1.size; omega
  have B2 : Hid (Below w.heap.size w w2) := b1.bel.trans (b2.bel.mono b1.bel.size)
  have FR : Hid (Fam w2 w.heap.size 0 3 (r3 0 0 0)) := b1.fam.below b2.bel s1
  have WR : Hid (Wrt w2 w.heap.size 0 3) := b1.wrt.below b2.bel s1
  have F0 : Hid (Fill w2 w2 w1.heap.size 3 0 (fun k => md k n) (r3 0 0 0)) := Fill.start _ b2.fam b2.wrt
  have HS : Hid (w.heap.size + 1 = w1.heap.size) := b1.size.symm
  clear b1 b2 hT
  generalize w1.heap.size = g at *
  go_enter Tryd.func18, Tryd.ntmps18
  go_wp2_with fail
  rw [← E1.out, ← E2.out, HS.out]
  clear E1 E2 HS
  go_loopw [5] (fun vk wr => ∃ k : Nat, k ≤ 3 ∧ vk = .int .i64 k ∧ Fill w2 wr g 3 k (fun k => md k n) (r3 0 0 0)) (fun vk _ => 3 - (intOf vk).toNat)
  case atStart => exact ⟨0, Nat.zero_le _, rfl, F0.out⟩
  case round =>
    obtain ⟨k, hk, rfl, hF⟩ := hrel
    have Tr : Tab wr := T2.wrote hF.wrote (fun o e => by omega)
    by_cases hk3 : k < 3
    · have hc := hF.fam.zero
      have hf := hF.wrt.zero
      have c1 : Hid _ := of_any k n wr Tr hn
      have hstep : Hid _ := hF.step hk3 (x := md k n) rfl
      clear hF
      generalize md k n = x at *
      go_wp2_with fail
      refine Calls.mono (Hid.out c1) ?_; rintro e w' ⟨rfl, hw'⟩; subst w'
      go_wp2_with fail
      go_roundw
      case rel => exact ⟨k + 1, by omega, by go_num, hstep.out⟩
      case measure => simp [intOf]; omega
    · obtain rfl : k = 3 := by omega
      obtain ⟨q0, q1, q2⟩ := (hF.fin (Nat.le_refl 3)).three
      have hbel : Hid (Below w.heap.size w wr) := B2.out.trans (hF.wrote.below (fun b o e => by omega))
      have q0' : wr.cell? ⟨g, 0, none⟩ = some (.int .u64 (md 0 n)) := q0
      have q1' : wr.cell? ⟨g, 1, none⟩ = some (.int .u64 (md 1 n)) := q1
      have q2' : wr.cell? ⟨g, 2, none⟩ = some (.int .u64 (md 2 n)) := q2
      have FZ : Hid (Fam wr w.heap.size 0 3 (r3 0 0 0)) := hF.wrote.fam FR.out (fun t _ e => by omega)
      obtain ⟨z0, z1, z2⟩ := FZ.out.three
      have hwr := (hF.wrote.wrt WR.out).zero
      have f0 := hwr 0 (by omega)
      have f1 := hwr 1 (by omega)
      have f2 := hwr 2 (by omega)
      clear hF q0 q1 q2 hwr
      go_wp2_with fail
      refine bodyPost_ret (results_set3 rfl _ wr w.heap.size (md 0 n) (md 1 n) (md 2 n) rfl FZ.out) rfl ?_
      exact ⟨rfl, below_three hbel.out (Nat.le_refl _) _ _ _⟩

set_option maxHeartbeats 1000000 in
theorem mixed_any (x y z : Int) (hx : 0 ≤ x) (hy : 0 ≤ y) (hz : 0 ≤ z) (w : World) (hT : Tab w) :
    Calls Tryd.prog 9 #[.agg #[.int .u64 x, .int .u64 y, .int .u64 z]] w fun e w' => e = .returned (.agg #[.int .u64 (d0 x), .int .u64 (d1 x y), .int .u64 (d2 x y z)]) ∧ Below w.heap.size w w' := by
  obtain ⟨w1, b1⟩ := box3 w x y z 23
  obtain ⟨w2, b2⟩ := box3 w1 0 0 0 23
  have T2 := b2.tab (b1.tab hT)
  have E1 : Hid _ := b1.eq
  have E2 : Hid _ := b2.eq
  have s1 : w.heap.size < w1.heap.size := by have := b1.size; omega
  have s2 : w1.heap.size < w2.heap.size := by have := b2.size; omega
  have B2 : Hid (Below w.heap.size w w2) := b1.bel.trans (b2.bel.mono b1.bel.size)
  have FA : Fam w2 w.heap.size 0 3 (r3 x y z) := b1.fam.below b2.bel s1
  have FR : Hid (Fam w2 w1.heap.size 0 3 (r3 0 0 0)) := b2.fam
  have WR : Hid (Wrt w2 w1.heap.size 0 3) := b2.wrt
  have HS : Hid (w.heap.size + 1 = w1.heap.size) := b1.size.symm
  have HA : Hid _ := FA
  obtain ⟨a0, a1, a2⟩ := FA.c3
  clear b1 b2 hT FA
  generalize w1.heap.size = g at *
  go_enter Tryd.func9, Tryd.ntmps9
  go_wp2_with fail
  rw [← E1.out, ← E2.out, HS.out]
  clear E1 E2 HS
  go_region_with (first | (go_at_call 24; refine (inverses_any _ ?hT).mono ?_; (case hT => exact T2); rintro e w3 ⟨rfl, b3⟩; have b3' : Hid (Below w2.heap.size w2 w3) := below_undrew b3; have T3 : Tab w3 := T2.below b3'.out (tab_lt T2); obtain ⟨k0, k1, k2⟩ := ((show Fam w2 w.heap.size 0 3 (r3 x y z) from HA.out).below b3'.out (by omega)).c3; clear b3) | (go_at_call 23; refine (digitsOf_any x y z hx hy hz _ ?hT).mono ?_; (case hT => exact T3); rintro e w4 ⟨rfl, b4⟩; have b4' : Hid (Below w2.heap.size w2 w4) := b3'.out.trans (b4.mono b3'.out.size); have F4 : Hid (Fam w4 g 0 3 (r3 0 0 0)) := (show Fam w2 g 0 3 (r3 0 0 0) from FR.out).below b4'.out s2; have W4 : Hid (Wrt w4 g 0 3) := (show Wrt w2 g 0 3 from WR.out).below b4'.out s2; obtain ⟨z0, z1, z2⟩ := (show Fam w4 g 0 3 (r3 0 0 0) from F4.out).c3; obtain ⟨f0, f1, f2⟩ := (show Wrt w4 g 0 3 from W4.out).c3; clear b4))
  all_goals
    go_wp2_with fail
    refine bodyPost_ret (results_set3 rfl _ _ g (d0 x) (d1 x y) (d2 x y z) rfl F4.out) rfl ?_
    exact ⟨rfl, below_three (B2.out.trans (b4'.out.mono B2.out.size)) (by omega) _ _ _⟩
end Go.Proofs.YtlkooihjcdgcjaaDoor
