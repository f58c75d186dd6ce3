/- The walk of 'beaglelaw06.ClassAsks': it answers true; nothing that was there is turned. For the statement's proof. -/
import Derived.OpenShut
import Derived.ProofKit
import Derived.Test.YtodjjajofiaehaaDoorClsAlive
import Derived.Deep.RegionHeld3
namespace Go.Proofs.YtodjjajofiaehaaDoor.classAsks
open Go.ChangeShapes Go.WideShapes Go.ChangeAt Go.RowKit Cls
set_option linter.unusedVariables false

/-- A class's box, on the way. -/
structure Kp (w wk : World) (ga : Nat) (f : Nat → Bool) : Prop where
  bel : Below w.heap.size w wk
  a : Fam wk ga 0 4 (wi f)
theorem Kp.grow {w wk w' : World} {ga : Nat} {f : Nat → Bool} (t : Kp w wk ga f) (b : Below wk.heap.size wk w') : Kp w w' ga f :=
  ⟨t.bel.trans (b.mono t.bel.size), t.a.below b (t.a.lt (by omega))⟩
set_option maxHeartbeats 4000000 in
theorem walk (f : Nat → Bool) (b : Nat) (w : World) (hb : b < 256) (hT : TabB w) :
    Calls Tryd.prog 5 #[.agg #[.int .u64 ((wd (f) 0 : Nat) : Int), .int .u64 ((wd (f) 1 : Nat) : Int), .int .u64 ((wd (f) 2 : Nat) : Int), .int .u64 ((wd (f) 3 : Nat) : Int)], .int .u8 b] w fun e w' => e = .returned (.bool true) ∧ Below w.heap.size w w' := by
  obtain ⟨w1, b1⟩ := box w f
  have E1 : Hid _ := b1.eq
  have T1 : TabB w1 := hT.grow b1.bel
  have TT : Hid (Kp w w1 w.heap.size f) := ⟨b1.bel, b1.fam⟩
  have c1 : Hid _ := single_any f w1 T1
  have CA : Hid _ := fun (v : World) (hv : TabB v) => alive_any v hv
  obtain ⟨N, hN⟩ : ∃ N, cb f 0 256 = N := ⟨_, rfl⟩
  obtain ⟨t, ht⟩ : ∃ t, f b = t := ⟨_, rfl⟩
  have CH : Hid _ := fun (v : World) => has_any f b hb v
  have CI : Hid _ := fun (v : World) => refHas_any f b hb v
  have CS : Hid _ := fun (v : World) => size_any f v
  have CR : Hid _ := fun (v : World) => refSize_any f v
  rw [ht] at CH CI
  rw [hN] at CS CR
  clear b1 hT hN ht
  obtain ⟨a0, a1, a2, a3⟩ := c4 TT.out.a
  go_enter Tryd.func5, Tryd.ntmps5
  go_wp2_with fail
  rw [← E1.out]
  clear E1
  refine Calls.mono (Hid.out c1) ?_; rintro e w2 ⟨⟨x, s, hs, hx, rfl⟩, b2⟩
  have TB : Hid (Kp w w2 w.heap.size f) := Kp.grow TT.out b2
  have T2 : TabB w2 := T1.grow b2
  have c2 : Hid _ := refSingle_any f w2
  clear b2 TT a0 a1 a2 a3 c1 T1
  obtain ⟨a0, a1, a2, a3⟩ := c4 TB.out.a
  go_wp2_with fail
  refine Calls.mono (Hid.out c2) ?_; rintro e w3 ⟨⟨y, u, hu, _, rfl⟩, b3⟩
  obtain ⟨rfl, rfl⟩ := hs.one hu
  have TT : Hid (Kp w w3 w.heap.size f) := Kp.grow TB.out b3
  have T3 : TabB w3 := T2.grow b3
  clear b3 TB a0 a1 a2 a3 c2 T2 hs hu
  obtain ⟨a0, a1, a2, a3⟩ := c4 TT.out.a
  go_wp2_with fail
  go_region_held3 (fun w' => w'.cell? ⟨w.heap.size, 0, none⟩ = some (.int .u64 ((wd f 0 : Nat) : Int)) ∧ w'.cell? ⟨w.heap.size, 1, none⟩ = some (.int .u64 ((wd f 1 : Nat) : Int)) ∧ w'.cell? ⟨w.heap.size, 2, none⟩ = some (.int .u64 ((wd f 2 : Nat) : Int)) ∧ w'.cell? ⟨w.heap.size, 3, none⟩ = some (.int .u64 ((wd f 3 : Nat) : Int))) (go_keep)
    (first
      | (go_at_call 9; (refine Calls.mono (CA.out _ T3) ?_); rintro e vk ⟨rfl, bb⟩; have TB : Hid (Kp w vk w.heap.size f) := Kp.grow TT.out (by first | exact undrew bb | exact bb); clear bb TT a0 a1 a2 a3; have TT : Hid (Kp w vk w.heap.size f) := TB.out; clear TB; obtain ⟨a0, a1, a2, a3⟩ := c4 TT.out.a)
      | (go_at_call 22; (with_reducible refine Calls.mono (CH.out _) ?_); rintro e vk ⟨rfl, bb⟩; have TB : Hid (Kp w vk w.heap.size f) := Kp.grow TT.out (by first | exact undrew bb | exact bb); clear bb TT a0 a1 a2 a3; have TT : Hid (Kp w vk w.heap.size f) := TB.out; clear TB; obtain ⟨a0, a1, a2, a3⟩ := c4 TT.out.a)
      | (go_at_call 23; (with_reducible refine Calls.mono (CI.out _) ?_); rintro e vk ⟨rfl, bb⟩; have TB : Hid (Kp w vk w.heap.size f) := Kp.grow TT.out (by first | exact undrew bb | exact bb); clear bb TT a0 a1 a2 a3; have TT : Hid (Kp w vk w.heap.size f) := TB.out; clear TB; obtain ⟨a0, a1, a2, a3⟩ := c4 TT.out.a)
      | (go_at_call 24; (with_reducible refine Calls.mono (CS.out _) ?_); rintro e vk ⟨rfl, bb⟩; have TB : Hid (Kp w vk w.heap.size f) := Kp.grow TT.out (by first | exact undrew bb | exact bb); clear bb TT a0 a1 a2 a3; have TT : Hid (Kp w vk w.heap.size f) := TB.out; clear TB; obtain ⟨a0, a1, a2, a3⟩ := c4 TT.out.a)
      | (go_at_call 25; (with_reducible refine Calls.mono (CR.out _) ?_); rintro e vk ⟨rfl, bb⟩; have TB : Hid (Kp w vk w.heap.size f) := Kp.grow TT.out (by first | exact undrew bb | exact bb); clear bb TT a0 a1 a2 a3; have TT : Hid (Kp w vk w.heap.size f) := TB.out; clear TB; obtain ⟨a0, a1, a2, a3⟩ := c4 TT.out.a))
  go_wp2_with fail
  go_ret
  exact ⟨rfl, TT.out.bel⟩

end Go.Proofs.YtodjjajofiaehaaDoor.classAsks
