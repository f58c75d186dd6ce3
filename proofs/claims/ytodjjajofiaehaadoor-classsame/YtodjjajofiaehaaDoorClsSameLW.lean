/- The walk of 'beaglelaw06.ClassSame': it answers true; nothing that was there is turned. For the statement's proof. -/
import Derived.OpenShut
import Derived.ProofKit
import Derived.Test.YtodjjajofiaehaaDoorClsAlive
import Derived.Deep.RegionHeld3
import Derived.BigQuiet
namespace Go.Proofs.YtodjjajofiaehaaDoor.classSame
open Go.ChangeShapes Go.WideShapes Go.ChangeAt Go.RowKit Cls
set_option linter.unusedVariables false

/-- Two boxes, on the way. -/
structure Two (w wk : World) (ga gb : Nat) (f h : Nat → Bool) : Prop where
  bel : Below w.heap.size w wk
  a : Fam wk ga 0 4 (wi f)
  b : Fam wk gb 0 4 (wi h)
  tab : TabB wk
theorem Two.grow {w wk w' : World} {ga gb : Nat} {f h : Nat → Bool} (t : Two w wk ga gb f h) (b : Below wk.heap.size wk w') : Two w w' ga gb f h :=
  ⟨t.bel.trans (b.mono t.bel.size), t.a.below b (t.a.lt (by omega)), t.b.below b (t.b.lt (by omega)), t.tab.grow b⟩
theorem Two.drewN {w wk : World} {ga gb : Nat} {f h : Nat → Bool} (t : Two w wk ga gb f h) (n : Nat) : Two w (wk.drewN n) ga gb f h := ⟨below_drewN t.bel n, t.a, t.b, t.tab⟩
/-- The same among the first k. -/
def sq (f h : Nat → Bool) : Nat → Bool
  | 0 => true
  | k + 1 => sq f h k && f k == h k
  termination_by k => k
theorem sq_zero (f h : Nat → Bool) : sq f h 0 = true := by unfold sq; rfl
theorem sq_succ (f h : Nat → Bool) (k : Nat) : sq f h (k + 1) = (sq f h k && f k == h k) := by rw [sq]
theorem sq_iff (f h : Nat → Bool) : ∀ k, sq f h k = true ↔ ∀ x, x < k → f x = h x
  | 0 => by rw [sq_zero]; simp
  | k + 1 => by
    rw [sq_succ, Bool.and_eq_true, sq_iff f h k, beq_iff_eq]
    constructor
    · rintro ⟨h1, h2⟩ x hx
      by_cases e : x = k
      · subst e; exact h2
      · exact h1 x (by omega)
    · intro h1
      exact ⟨fun x hx => h1 x (by omega), h1 k (by omega)⟩
theorem sq_sm (f h : Nat → Bool) : sq f h 256 = sm f h := by
  rw [Bool.eq_iff_iff, sq_iff, sm_iff]
set_option maxHeartbeats 4000000 in
theorem walk (f h : Nat → Bool) (w : World) (hT : TabB w) :
    Calls Tryd.prog 7 #[.agg #[.int .u64 ((wd (f) 0 : Nat) : Int), .int .u64 ((wd (f) 1 : Nat) : Int), .int .u64 ((wd (f) 2 : Nat) : Int), .int .u64 ((wd (f) 3 : Nat) : Int)], .agg #[.int .u64 ((wd (h) 0 : Nat) : Int), .int .u64 ((wd (h) 1 : Nat) : Int), .int .u64 ((wd (h) 2 : Nat) : Int), .int .u64 ((wd (h) 3 : Nat) : Int)]] w fun e w' => e = .returned (.bool true) ∧ Below w.heap.size w w' := by
  obtain ⟨w1, b1⟩ := box w f
  obtain ⟨w2, b2⟩ := box w1 h
  have s1 : w.heap.size < w1.heap.size := by have := b1.size; omega
  have E1 : Hid _ := b1.eq
  have E2 : Hid _ := b2.eq
  have HS : Hid (w.heap.size + 1 = w1.heap.size) := b1.size.symm
  have T0 : Hid (Two w w2 w.heap.size w1.heap.size f h) := ⟨b1.bel.trans (b2.bel.mono b1.bel.size), b1.fam.below b2.bel s1, b2.fam, (hT.grow b1.bel).grow b2.bel⟩
  clear b1 b2 hT
  generalize w1.heap.size = gb at *
  go_enter Tryd.func7, Tryd.ntmps7
  go_wp2_with fail
  rw [← E1.out, ← E2.out, HS.out]
  clear E1 E2 HS
  go_loopw [5, 7] (fun vs vk wr => ∃ k : Nat, k ≤ 256 ∧ vk = .int .i64 k ∧ vs = .bool (sq f h k) ∧ Two w wr w.heap.size gb f h) (fun _ vk _ => 256 - (intOf vk).toNat)
  case atStart => exact ⟨0, Nat.zero_le _, rfl, by rw [sq_zero], T0.out⟩
  case round =>
    obtain ⟨k, hk, rfl, rfl, hF⟩ := hrel
    have TT : Hid (Two w wr w.heap.size gb f h) := hF
    clear hF
    obtain ⟨a0, a1, a2, a3⟩ := c4 TT.out.a
    obtain ⟨r0, r1, r2, r3⟩ := c4 TT.out.b
    by_cases hlt : k < 256
    · have hkI : (k : Int) < 256 := by omega
      have hs : Hid _ := sq_succ f h k
      have hk0 : (0 : Int) ≤ (k : Int) := by omega
      have hconv : IntKind.u8.wrap (k : Int) = (k : Int) := by simp [IntKind.wrap, IntKind.signed, IntKind.bits]; omega
      cases hq : sq f h k with
      | true =>
        have CH : Hid _ := fun (v : World) => has_any f k hlt v
        have CI : Hid _ := fun (v : World) => has_any h k hlt v
        have hs2 : Hid (sq f h (k + 1) = (f k == h k)) := by show _ = _; rw [hs.out, hq, Bool.true_and]
        obtain ⟨x, hx⟩ : ∃ x, f k = x := ⟨_, rfl⟩
        obtain ⟨y, hy⟩ : ∃ y, h k = y := ⟨_, rfl⟩
        rw [hx] at CH hs2
        rw [hy] at CI hs2
        clear hq hs hx hy
        go_wp2_with fail
        go_region_held3 (fun w' => w'.cell? ⟨w.heap.size, 0, none⟩ = some (.int .u64 ((wd f 0 : Nat) : Int)) ∧ w'.cell? ⟨w.heap.size, 1, none⟩ = some (.int .u64 ((wd f 1 : Nat) : Int)) ∧ w'.cell? ⟨w.heap.size, 2, none⟩ = some (.int .u64 ((wd f 2 : Nat) : Int)) ∧ w'.cell? ⟨w.heap.size, 3, none⟩ = some (.int .u64 ((wd f 3 : Nat) : Int)) ∧ w'.cell? ⟨gb, 0, none⟩ = some (.int .u64 ((wd h 0 : Nat) : Int)) ∧ w'.cell? ⟨gb, 1, none⟩ = some (.int .u64 ((wd h 1 : Nat) : Int)) ∧ w'.cell? ⟨gb, 2, none⟩ = some (.int .u64 ((wd h 2 : Nat) : Int)) ∧ w'.cell? ⟨gb, 3, none⟩ = some (.int .u64 ((wd h 3 : Nat) : Int))) (go_keep)
          (first
            | (go_at_call 22; (first | (with_reducible refine Calls.mono (CH.out _) ?_) | (with_reducible refine Calls.mono (CI.out _) ?_)); rintro e vk ⟨rfl, bb⟩; have TB : Hid (Two w vk w.heap.size gb f h) := Two.grow TT.out (by first | exact undrew bb | exact bb); clear bb TT a0 a1 a2 a3 r0 r1 r2 r3; have TT : Hid (Two w vk w.heap.size gb f h) := TB.out; clear TB; obtain ⟨a0, a1, a2, a3⟩ := c4 TT.out.a; obtain ⟨r0, r1, r2, r3⟩ := c4 TT.out.b))
        go_wp2_with fail
        go_roundw
        case rel => exact ⟨k + 1, by omega, by go_num, by rw [hs2.out], TT.out⟩
        case measure => simp [intOf]; omega
      | false =>
        have hs2 : Hid (sq f h (k + 1) = false) := by show _ = _; rw [hs.out, hq]; rfl
        clear hq hs
        go_wp2_with fail
        go_quiet (fail)
        go_wp2_with fail
        go_roundw
        case rel => exact ⟨k + 1, by omega, by go_num, by rw [hs2.out], TT.out.drewN _⟩
        case measure => simp [intOf]; omega
    · obtain rfl : k = 256 := by omega
      have c1 : Hid _ := alive_any wr TT.out.tab
      rw [sq_sm]
      clear a0 a1 a2 a3 r0 r1 r2 r3
      generalize hgen : sm f h = q
      have HQ : Hid _ := hgen
      go_wp2_with fail
      refine Calls.mono (Hid.out c1) ?_; rintro e w3 ⟨rfl, b3⟩
      have T3 : Hid (Two w w3 w.heap.size gb f h) := Two.grow TT.out b3
      obtain ⟨a0, a1, a2, a3⟩ := c4 T3.out.a
      obtain ⟨r0, r1, r2, r3⟩ := c4 T3.out.b
      clear b3 c1 TT
      go_wp2_with fail
      go_ret
      exact ⟨by first | rfl | simp [hgen], T3.out.bel⟩

end Go.Proofs.YtodjjajofiaehaaDoor.classSame
