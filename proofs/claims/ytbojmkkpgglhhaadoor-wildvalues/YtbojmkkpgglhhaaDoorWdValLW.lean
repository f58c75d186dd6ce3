/- The walk of 'beaglelaw10.WildValues': it answers true; nothing that was there is turned. For the statement's proof. -/
import Derived.OpenShut
import Derived.ProofKit
import Derived.Test.YtbojmkkpgglhhaaDoorWdLaw
namespace Go.Proofs.YtbojmkkpgglhhaaDoor.wildValues
open Go.ChangeShapes Go.WideShapes Go.ChangeAt Go.RowKit Cls
set_option linter.unusedVariables false

set_option maxRecDepth 4000 in
set_option maxHeartbeats 4000000 in
theorem walk (f : Nat → Bool) (ao : Option Addr) (n cap : Nat) (P : Nat → Nat → Bool) (K : Int) (w : World) (hp : Lp w ao n P) (hA : Tab w) (hT : TabB w) :
    Calls Tryd.prog 3 #[.agg #[.int .u64 ((wd (f) 0 : Nat) : Int), .int .u64 ((wd (f) 1 : Nat) : Int), .int .u64 ((wd (f) 2 : Nat) : Int), .int .u64 ((wd (f) 3 : Nat) : Int)], .agg #[.slice ao n cap, .int .i64 K]] w fun e w' => e = .returned (.bool true) ∧ Below w.heap.size w w' := by
  obtain ⟨w0, b0⟩ := box w f
  obtain ⟨w1, b1⟩ := lbox w0 (.slice ao n cap) (.int .i64 K)
  have E0 : Hid _ := b0.eq
  have E1 : Hid _ := b1.eq
  have HS : Hid (w.heap.size + 1 = w0.heap.size) := b0.size.symm
  have B1 : Hid (Below w.heap.size w w1) := b0.bel.trans (b1.bel.mono b0.bel.size)
  have A1 : Hid (Tab w1) := tab_grow hA B1.out
  have T1 : Hid (TabB w1) := hT.grow B1.out
  have FC : Fam w1 w.heap.size 0 4 (wi f) := b0.fam.below b1.bel (b0.fam.lt (by omega))
  have d0 := b1.c0
  have d1 := b1.c1
  have CA : Hid _ := fun (v : World) (hu : Tab v) (hv : TabB v) => alive10_any v hu hv
  have hsm := hp.small
  by_cases hn : n ≤ 100
  · have TT : Hid (Lxc w w1 w0.heap.size w.heap.size ao n cap P K f) := ⟨⟨B1.out, ⟨b1.c0, b1.c1⟩, (hp.grow B1.out).lf hn, A1.out, T1.out⟩, FC⟩
    have CF : Hid _ := few10_any n cap ao K ⟨#[]⟩ (by decide) hsm w1
    rw [show decide (n ≤ 100 ∧ (⟨#[]⟩ : ByteArray).size ≤ 300) = true from decide_eq_true ⟨hn, by decide⟩] at CF
    have hv := vl_le f
    have CV : Hid _ := fun (v : World) (hv : TabB v) => value_any f v hv
    have CW : Hid _ := fun (v : World) => refValue_any f v
    have CX : Hid _ := fun (v : World) (hv : TabB v) (hl : Lf v ao n P) => weight_any P n cap ao K (by omega) v hv hl
    have CY : Hid _ := fun (v : World) (hl : Lf v ao n P) => refWeight_any P n cap ao K (by omega) v hl
    generalize vl f = x at *
    generalize wg P n = y at *
    have ex : (((x : Nat) : Int) == ((x : Nat) : Int)) = true := by simp
    have ey : (y == y) = true := by simp
    have hxI : ((x : Nat) : Int) ≤ 256 := by omega
    clear hv b0 b1 hT hA hp T1 A1 B1 FC
    go_enter Tryd.func3, Tryd.ntmps3
    go_wp2_with (first | rw [← E0.out, ← E1.out, HS.out])
    refine Calls.mono (Hid.out CF) ?_; rintro e w2 ⟨rfl, b2⟩
    have TB : Hid (Lxc w w2 w0.heap.size w.heap.size ao n cap P K f) := Lxc.grow TT.out b2
    clear b2 TT CF d0 d1 E0 E1 HS
    have TT : Hid (Lxc w w2 w0.heap.size w.heap.size ao n cap P K f) := TB.out
    clear TB
    generalize w0.heap.size = g at *
    obtain ⟨c0, c1⟩ := TT.out.o.c
    obtain ⟨a0, a1, a2, a3⟩ := c4 TT.out.f
    go_wp2_with fail
    go_region_held3 (fun w' => w'.cell? ⟨g, 0, none⟩ = some (.slice ao n cap) ∧ w'.cell? ⟨g, 1, none⟩ = some (.int .i64 K) ∧ w'.cell? ⟨w.heap.size, 0, none⟩ = some (.int .u64 ((wd f 0 : Nat) : Int)) ∧ w'.cell? ⟨w.heap.size, 1, none⟩ = some (.int .u64 ((wd f 1 : Nat) : Int)) ∧ w'.cell? ⟨w.heap.size, 2, none⟩ = some (.int .u64 ((wd f 2 : Nat) : Int)) ∧ w'.cell? ⟨w.heap.size, 3, none⟩ = some (.int .u64 ((wd f 3 : Nat) : Int))) (go_keep)
      (first
        | (go_at_call 10; (refine Calls.mono (CA.out _ TT.out.o.ta TT.out.o.tb) ?_); rintro e vk ⟨rfl, bb⟩; have TB : Hid (Lxc w vk g w.heap.size ao n cap P K f) := Lxc.grow TT.out (by first | exact undrew bb | exact bb); clear bb TT c0 c1 a0 a1 a2 a3; have TT : Hid (Lxc w vk g w.heap.size ao n cap P K f) := TB.out; clear TB; obtain ⟨c0, c1⟩ := TT.out.o.c; obtain ⟨a0, a1, a2, a3⟩ := c4 TT.out.f)
        | (go_at_call 11; (refine Calls.mono (CV.out _ TT.out.o.tb) ?_); rintro e vk ⟨rfl, bb⟩; have TB : Hid (Lxc w vk g w.heap.size ao n cap P K f) := Lxc.grow TT.out (by first | exact undrew bb | exact bb); clear bb TT c0 c1 a0 a1 a2 a3; have TT : Hid (Lxc w vk g w.heap.size ao n cap P K f) := TB.out; clear TB; obtain ⟨c0, c1⟩ := TT.out.o.c; obtain ⟨a0, a1, a2, a3⟩ := c4 TT.out.f)
        | (go_at_call 12; (refine Calls.mono (CW.out _) ?_); rintro e vk ⟨rfl, bb⟩; have TB : Hid (Lxc w vk g w.heap.size ao n cap P K f) := Lxc.grow TT.out (by first | exact undrew bb | exact bb); clear bb TT c0 c1 a0 a1 a2 a3; have TT : Hid (Lxc w vk g w.heap.size ao n cap P K f) := TB.out; clear TB; obtain ⟨c0, c1⟩ := TT.out.o.c; obtain ⟨a0, a1, a2, a3⟩ := c4 TT.out.f)
        | (go_at_call 13; (refine Calls.mono (CX.out _ TT.out.o.tb TT.out.o.l) ?_); rintro e vk ⟨rfl, bb⟩; have TB : Hid (Lxc w vk g w.heap.size ao n cap P K f) := Lxc.grow TT.out (by first | exact undrew bb | exact bb); clear bb TT c0 c1 a0 a1 a2 a3; have TT : Hid (Lxc w vk g w.heap.size ao n cap P K f) := TB.out; clear TB; obtain ⟨c0, c1⟩ := TT.out.o.c; obtain ⟨a0, a1, a2, a3⟩ := c4 TT.out.f)
        | (go_at_call 14; (refine Calls.mono (CY.out _ TT.out.o.l) ?_); rintro e vk ⟨rfl, bb⟩; have TB : Hid (Lxc w vk g w.heap.size ao n cap P K f) := Lxc.grow TT.out (by first | exact undrew bb | exact bb); clear bb TT c0 c1 a0 a1 a2 a3; have TT : Hid (Lxc w vk g w.heap.size ao n cap P K f) := TB.out; clear TB; obtain ⟨c0, c1⟩ := TT.out.o.c; obtain ⟨a0, a1, a2, a3⟩ := c4 TT.out.f))
    go_wp2_with fail
    go_ret
    exact ⟨rfl, TT.out.o.bel⟩
  · have CF : Hid _ := few10_any n cap ao K ⟨#[]⟩ (by decide) hsm w1
    rw [show decide (n ≤ 100 ∧ (⟨#[]⟩ : ByteArray).size ≤ 300) = false from decide_eq_false (fun h => hn h.1)] at CF
    clear b0 b1 hT hA hp FC
    go_enter Tryd.func3, Tryd.ntmps3
    go_wp2_with (first | rw [← E0.out, ← E1.out, HS.out])
    refine Calls.mono (Hid.out CF) ?_; rintro e w2 ⟨rfl, b2⟩
    have B2 : Hid (Below w.heap.size w w2) := B1.out.trans (b2.mono B1.out.size)
    have CA2 : Hid _ := CA.out w2 (tab_grow A1.out b2) (T1.out.grow b2)
    clear b2 CA d0 d1 E0 E1 HS CF
    go_wp2_with fail
    refine Calls.mono (Hid.out CA2) ?_; rintro e w3 ⟨rfl, b3⟩
    have B3 : Hid (Below w.heap.size w w3) := B2.out.trans (b3.mono B2.out.size)
    clear b3 CA2
    go_wp2_with fail
    go_ret
    exact ⟨rfl, B3.out⟩

end Go.Proofs.YtbojmkkpgglhhaaDoor.wildValues
