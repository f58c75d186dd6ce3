/- The walk of 'beaglelaw06.ClassSets': it answers true; nothing that was there is turned. For the statement's proof. -/
import Derived.OpenShut
import Derived.ProofKit
import Derived.Test.YtodjjajofiaehaaDoorClsAlive
import Derived.Deep.RegionHeld3
namespace Go.Proofs.YtodjjajofiaehaaDoor.classSets
open Go.ChangeShapes Go.WideShapes Go.ChangeAt Go.RowKit Cls
set_option linter.unusedVariables false

/-- Two boxes, on the way. -/
structure Two (w wk : World) (ga gb : Nat) (f h : Nat → Bool) : Prop where
  bel : Below w.heap.size w wk
  a : Fam wk ga 0 4 (wi f)
  b : Fam wk gb 0 4 (wi h)
theorem Two.grow {w wk w' : World} {ga gb : Nat} {f h : Nat → Bool} (t : Two w wk ga gb f h) (b : Below wk.heap.size wk w') : Two w w' ga gb f h :=
  ⟨t.bel.trans (b.mono t.bel.size), t.a.below b (t.a.lt (by omega)), t.b.below b (t.b.lt (by omega))⟩
set_option maxHeartbeats 4000000 in
theorem walk (f h : Nat → Bool) (w : World) (hT : TabB w) :
    Calls Tryd.prog 4 #[.agg #[.int .u64 ((wd (f) 0 : Nat) : Int), .int .u64 ((wd (f) 1 : Nat) : Int), .int .u64 ((wd (f) 2 : Nat) : Int), .int .u64 ((wd (f) 3 : Nat) : Int)], .agg #[.int .u64 ((wd (h) 0 : Nat) : Int), .int .u64 ((wd (h) 1 : Nat) : Int), .int .u64 ((wd (h) 2 : Nat) : Int), .int .u64 ((wd (h) 3 : Nat) : Int)]] w fun e w' => e = .returned (.bool true) ∧ Below w.heap.size w w' := by
  obtain ⟨w1, b1⟩ := box w f
  obtain ⟨w2, b2⟩ := box w1 h
  have s1 : w.heap.size < w1.heap.size := by have := b1.size; omega
  have E1 : Hid _ := b1.eq
  have E2 : Hid _ := b2.eq
  have HS : Hid (w.heap.size + 1 = w1.heap.size) := b1.size.symm
  have TT : Hid (Two w w2 w.heap.size w1.heap.size f h) := ⟨b1.bel.trans (b2.bel.mono b1.bel.size), b1.fam.below b2.bel s1, b2.fam⟩
  have T2 : TabB w2 := (hT.grow b1.bel).grow b2.bel
  have CA : Hid _ := fun (v : World) (hv : TabB v) => alive_any v hv
  have CN : Hid _ := fun (v : World) => not_any f v
  have CM : Hid _ := fun (v : World) => refNot_any f v
  have CO : Hid _ := fun (v : World) => or_any f h v
  have CP : Hid _ := fun (v : World) => refOr_any f h v
  have q1 : sm (fun b => !f b) (fun b => !f b) = true := sm_true (fun _ _ => rfl)
  have q2 : sm (fun b => f b || h b) (fun b => f b || h b) = true := sm_true (fun _ _ => rfl)
  clear b1 b2 hT
  generalize w1.heap.size = gb at *
  obtain ⟨a0, a1, a2, a3⟩ := c4 TT.out.a
  obtain ⟨r0, r1, r2, r3⟩ := c4 TT.out.b
  go_enter Tryd.func4, Tryd.ntmps4
  go_wp2_with fail
  rw [← E1.out, ← E2.out, HS.out]
  clear E1 E2 HS
  go_region_held3 (fun w' => w'.cell? ⟨w.heap.size, 0, none⟩ = some (.int .u64 ((wd f 0 : Nat) : Int)) ∧ w'.cell? ⟨w.heap.size, 1, none⟩ = some (.int .u64 ((wd f 1 : Nat) : Int)) ∧ w'.cell? ⟨w.heap.size, 2, none⟩ = some (.int .u64 ((wd f 2 : Nat) : Int)) ∧ w'.cell? ⟨w.heap.size, 3, none⟩ = some (.int .u64 ((wd f 3 : Nat) : Int)) ∧ w'.cell? ⟨gb, 0, none⟩ = some (.int .u64 ((wd h 0 : Nat) : Int)) ∧ w'.cell? ⟨gb, 1, none⟩ = some (.int .u64 ((wd h 1 : Nat) : Int)) ∧ w'.cell? ⟨gb, 2, none⟩ = some (.int .u64 ((wd h 2 : Nat) : Int)) ∧ w'.cell? ⟨gb, 3, none⟩ = some (.int .u64 ((wd h 3 : Nat) : Int))) (go_keep)
    (first
      | (go_at_call 9; (refine Calls.mono (CA.out _ T2) ?_); rintro e vk ⟨rfl, bb⟩; have TB : Hid (Two w vk w.heap.size gb f h) := Two.grow TT.out (by first | exact undrew bb | exact bb); clear bb TT a0 a1 a2 a3 r0 r1 r2 r3; have TT : Hid (Two w vk w.heap.size gb f h) := TB.out; clear TB; obtain ⟨a0, a1, a2, a3⟩ := c4 TT.out.a; obtain ⟨r0, r1, r2, r3⟩ := c4 TT.out.b)
      | (go_at_call 16; (with_reducible refine Calls.mono (CN.out _) ?_); rintro e vk ⟨rfl, bb⟩; have TB : Hid (Two w vk w.heap.size gb f h) := Two.grow TT.out (by first | exact undrew bb | exact bb); clear bb TT a0 a1 a2 a3 r0 r1 r2 r3; have TT : Hid (Two w vk w.heap.size gb f h) := TB.out; clear TB; obtain ⟨a0, a1, a2, a3⟩ := c4 TT.out.a; obtain ⟨r0, r1, r2, r3⟩ := c4 TT.out.b)
      | (go_at_call 17; (with_reducible refine Calls.mono (CM.out _) ?_); rintro e vk ⟨rfl, bb⟩; have TB : Hid (Two w vk w.heap.size gb f h) := Two.grow TT.out (by first | exact undrew bb | exact bb); clear bb TT a0 a1 a2 a3 r0 r1 r2 r3; have TT : Hid (Two w vk w.heap.size gb f h) := TB.out; clear TB; obtain ⟨a0, a1, a2, a3⟩ := c4 TT.out.a; obtain ⟨r0, r1, r2, r3⟩ := c4 TT.out.b)
      | (go_at_call 18; (with_reducible refine Calls.mono (CO.out _) ?_); rintro e vk ⟨rfl, bb⟩; have TB : Hid (Two w vk w.heap.size gb f h) := Two.grow TT.out (by first | exact undrew bb | exact bb); clear bb TT a0 a1 a2 a3 r0 r1 r2 r3; have TT : Hid (Two w vk w.heap.size gb f h) := TB.out; clear TB; obtain ⟨a0, a1, a2, a3⟩ := c4 TT.out.a; obtain ⟨r0, r1, r2, r3⟩ := c4 TT.out.b)
      | (go_at_call 19; (with_reducible refine Calls.mono (CP.out _) ?_); rintro e vk ⟨rfl, bb⟩; have TB : Hid (Two w vk w.heap.size gb f h) := Two.grow TT.out (by first | exact undrew bb | exact bb); clear bb TT a0 a1 a2 a3 r0 r1 r2 r3; have TT : Hid (Two w vk w.heap.size gb f h) := TB.out; clear TB; obtain ⟨a0, a1, a2, a3⟩ := c4 TT.out.a; obtain ⟨r0, r1, r2, r3⟩ := c4 TT.out.b))
  go_wp2_with fail
  go_ret
  exact ⟨rfl, TT.out.bel⟩

end Go.Proofs.YtodjjajofiaehaaDoor.classSets
