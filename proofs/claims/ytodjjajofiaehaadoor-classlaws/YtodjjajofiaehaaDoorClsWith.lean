/- Contracts of class.with, class.Has. -/
import Derived.Test.YtodjjajofiaehaaDoorClsBox
import Derived.CellFam
import Derived.Deep.QuietTactic
import Derived.BigQuiet
import Derived.RegionTactic
import Derived.BigRegion
import Derived.Deep.RegionWith
namespace Go.Proofs.YtodjjajofiaehaaDoor
open Go.RowKit
namespace Cls

set_option maxHeartbeats 1000000 in
theorem has_any (f : Nat → Bool) (b : Nat) (hb : b < 256) (w : World) :
    Calls Tryd.prog 22 #[.agg #[.int .u64 ((wd (f) 0 : Nat) : Int), .int .u64 ((wd (f) 1 : Nat) : Int), .int .u64 ((wd (f) 2 : Nat) : Int), .int .u64 ((wd (f) 3 : Nat) : Int)], .int .u8 b] w fun e w' => e = .returned (.bool (f b)) ∧ Below w.heap.size w w' := by
  obtain ⟨k, hk⟩ : ∃ k, b / 64 = k := ⟨_, rfl⟩
  obtain ⟨i, hi⟩ : ∃ i, b % 64 = i := ⟨_, rfl⟩
  have hk4 : k < 4 := by omega
  have hi64 : i < 64 := by omega
  have hq : (b : Int) / 64 = (k : Int) := by omega
  have hr : (b : Int) % 64 = (i : Int) := by omega
  obtain ⟨w1, b1⟩ := box w f
  have E1 : Hid _ := b1.eq
  have B1 : Hid _ := b1.bel
  have hck : w1.cell? ⟨w.heap.size, k, none⟩ = some (.int .u64 (wd f k : Nat)) := b1.fam.zero k hk4
  clear b1
  go_enter Tryd.func22, Tryd.ntmps22
  go_wp2_with (first | rw [← E1.out] | simp only [get4 f k hk4])
  go_ret
  refine ⟨?_, B1.out⟩
  have hk2 := has_key f k i hi64
  rw [show 64 * k + i = b by omega] at hk2
  show Ending.returned (Value.bool (bits BinOp.and IntKind.u64 (((wd f k : Nat) : Int) / 2 ^ i) 1 == 1)) = _
  rw [hk2]

set_option maxHeartbeats 1000000 in
theorem with_any (f : Nat → Bool) (b : Nat) (hb : b < 256) (w : World) :
    Calls Tryd.prog 28 #[.agg #[.int .u64 ((wd (f) 0 : Nat) : Int), .int .u64 ((wd (f) 1 : Nat) : Int), .int .u64 ((wd (f) 2 : Nat) : Int), .int .u64 ((wd (f) 3 : Nat) : Int)], .int .u8 b] w fun e w' => e = .returned (.agg #[.int .u64 ((wd (ins f b) 0 : Nat) : Int), .int .u64 ((wd (ins f b) 1 : Nat) : Int), .int .u64 ((wd (ins f b) 2 : Nat) : Int), .int .u64 ((wd (ins f b) 3 : Nat) : Int)]) ∧ Below w.heap.size w w' := by
  obtain ⟨k, hk⟩ : ∃ k, b / 64 = k := ⟨_, rfl⟩
  obtain ⟨i, hi⟩ : ∃ i, b % 64 = i := ⟨_, rfl⟩
  have hk4 : k < 4 := by omega
  have hi64 : i < 64 := by omega
  have hq : (b : Int) / 64 = (k : Int) := by omega
  have hr : (b : Int) % 64 = (i : Int) := by omega
  have hw := wrap_pow i hi64
  have hor : bits .or .u64 (wd f k : Nat) ((2 : Int) ^ i) = ((wd (ins f b) k : Nat) : Int) := by
    obtain ⟨e, _, _, h⟩ := pow_int i hi64
    rw [e, bits_or_u64_nat _ _ (wd_lt f k) h, ins_at f k i hi64, show 64 * k + i = b by omega]
  obtain ⟨w1, b1⟩ := box w f
  obtain ⟨w2, b2⟩ := box0 w1
  have E1 : Hid _ := b1.eq
  have E2 : Hid _ := b2.eq
  have s1 : w.heap.size < w1.heap.size := by have := b1.size; omega
  have B2 : Hid (Below w.heap.size w w2) := b1.bel.trans (b2.bel.mono b1.bel.size)
  have F2 : Fam w2 w.heap.size 0 4 (wi f) := b1.fam.below b2.bel s1
  have W2 : Wrt w2 w.heap.size 0 4 := b1.wrt.below b2.bel s1
  have hck : w2.cell? ⟨w.heap.size, k, none⟩ = some (.int .u64 (wd f k : Nat)) := F2.zero k hk4
  have hfk : w2.frozen? ⟨w.heap.size, k, none⟩ = false := W2.zero k hk4
  have F3 : Fam (w2.setCell ⟨w.heap.size, k, none⟩ (.int .u64 (wd (ins f b) k : Nat))) w.heap.size 0 4 (wi (ins f b)) := (F2.setCell_at hk4 (by omega) _).congr (fun t _ => by
    by_cases e : t = k
    · subst e; rw [upd_at]; rfl
    · rw [upd_off e]; unfold wi; rw [show b = 64 * k + i by omega, ins_off f k i t hi64 e])
  have R3 : Hid (Fam (w2.setCell ⟨w.heap.size, k, none⟩ (.int .u64 (wd (ins f b) k : Nat))) w1.heap.size 0 4 (wi (fun _ => false))) := b2.fam.setCell_ne (by omega) _
  have V3 : Wrt (w2.setCell ⟨w.heap.size, k, none⟩ (.int .u64 (wd (ins f b) k : Nat))) w1.heap.size 0 4 := b2.wrt.setCell _ _
  have B3 : Hid (Below w.heap.size w (w2.setCell ⟨w.heap.size, k, none⟩ (.int .u64 (wd (ins f b) k : Nat)))) := B2.out.trans (((Wrote.refl (fun b' _ => b' = w.heap.size) w2).setCell rfl _).below (fun b' o e => by omega))
  obtain ⟨a0, a1, a2, a3⟩ := c4 F3
  obtain ⟨z0, z1, z2, z3⟩ := c4 R3.out
  obtain ⟨f0, f1, f2, f3⟩ := f4 V3
  have HS : Hid (w.heap.size + 1 = w1.heap.size) := b1.size.symm
  clear b1 b2 F2 W2 F3 V3
  generalize w1.heap.size = g at *
  go_enter Tryd.func28, Tryd.ntmps28
  go_wp2_with (first | rw [← E1.out, ← E2.out, HS.out] | simp only [get4 f k hk4, hw, hor])
  refine bodyPost_ret (results_set4 rfl _ _ g (ins f b) rfl R3.out) rfl ?_
  exact ⟨rfl, set4_below B3.out (by omega) _⟩
end Cls
end Go.Proofs.YtodjjajofiaehaaDoor
