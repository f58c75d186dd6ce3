/- The walk of 'beaglelaw07.LeafKinds': it answers true; nothing that was there is turned. For the statement's proof. -/
import Derived.OpenShut
import Derived.ProofKit
import Derived.Test.YtcohcdebbkfdfaaDoorLfLaw
namespace Go.Proofs.YtcohcdebbkfdfaaDoor.leafKinds
open Go.ChangeShapes Go.WideShapes Go.ChangeAt Go.RowKit Cls
set_option linter.unusedVariables false

set_option maxHeartbeats 4000000 in
theorem walk (ao : Option Addr) (n cap : Nat) (P : Nat → Nat → Bool) (K : Int) (c : Nat → Bool) (w : World) (hp : Lp w ao n P) (hT : TabB w) :
    Calls Tryd.prog 6 #[.agg #[.slice ao n cap, .int .i64 K], .agg #[.int .u64 ((wd (c) 0 : Nat) : Int), .int .u64 ((wd (c) 1 : Nat) : Int), .int .u64 ((wd (c) 2 : Nat) : Int), .int .u64 ((wd (c) 3 : Nat) : Int)]] w fun e w' => e = .returned (.bool true) ∧ Below w.heap.size w w' := by
  obtain ⟨w1, b1⟩ := lbox w (.slice ao n cap) (.int .i64 K)
  obtain ⟨w2, b2⟩ := box w1 c
  have E1 : Hid _ := b1.eq
  have E2 : Hid _ := b2.eq
  have s1 : w.heap.size < w1.heap.size := by have := b1.size; omega
  have HS : Hid (w.heap.size + 1 = w1.heap.size) := b1.size.symm
  have B2 : Hid (Below w.heap.size w w2) := b1.bel.trans (b2.bel.mono b1.bel.size)
  have T2 : Hid (TabB w2) := hT.grow B2.out
  have hc := two_below ⟨b1.c0, b1.c1⟩ b2.bel s1
  obtain ⟨c0, c1⟩ := hc
  have HF : Hid (Fam w2 w1.heap.size 0 4 (wi c)) := b2.fam
  have CA : Hid _ := fun (v : World) (hv : TabB v) => alive07_any v hv
  generalize w1.heap.size = gc at *
  by_cases hn : n ≤ 100
  · have TT : Hid (Lwc w w2 w.heap.size gc ao n cap P K c) := ⟨⟨B2.out, ⟨c0, c1⟩, (hp.grow B2.out).lf hn, T2.out⟩, HF.out⟩
    have CF : Hid _ := few07_any n cap ao K w2 hp.small true (by simp [hn])
    have hkl := kd_len P n
    have hwl := wh_len P c n
    obtain ⟨L, hL⟩ : ∃ L, kd P n = L := ⟨_, rfl⟩
    obtain ⟨M, hM⟩ : ∃ M, wh P c n = M := ⟨_, rfl⟩
    have CK : Hid _ := fun (v : World) (hv : Lf v ao n P) => kinds_any P n cap ao K v hv
    have CJ : Hid _ := fun (v : World) (hv : Lf v ao n P) => refKinds_any P n cap ao K v hv
    have CW : Hid _ := fun (v : World) (hv : Lf v ao n P) => where_any P c n cap ao K v hv
    have CV : Hid _ := fun (v : World) (hv : Lf v ao n P) => refWhere_any P c n cap ao K v hv
    rw [hL] at CK CJ hkl
    rw [hM] at CW CV hwl
    have hML : M.length ≤ 4398046511104 := by omega
    have CL : Hid (∀ (v : World) (d d' : Nat) (x y : Option Addr), Lf v x L.length (at' L) → Lf v y L.length (at' L) → Calls Tryd.prog 23 #[.slice x L.length d, .slice y L.length d'] v fun e w' => e = .returned (.bool true) ∧ Below v.heap.size v w') := fun v d d' x y h1 h2 => by
      have h := classes_any (at' L) (at' L) L.length L.length d d' x y v h1 h2
      rw [eqr_refl] at h
      exact h
    have CQ : Hid (∀ (v : World) (d d' : Nat) (x y : Option Addr), Is v x M → Is v y M → Calls Tryd.prog 26 #[.slice x M.length d, .slice y M.length d'] v fun e w' => e = .returned (.bool true) ∧ Below v.heap.size v w') := fun v d d' x y h1 h2 => by
      have h := places_any M M d d' x y v h1 h2 hML hML
      rw [show eqi M M = true by simp [eqi]] at h
      exact h
    clear b1 b2 hT hp hL hM T2 B2 HF hkl hwl hML
    go_enter Tryd.func6, Tryd.ntmps6
    go_wp2_with fail
    rw [← E1.out, ← E2.out, HS.out]
    clear E1 E2 HS
    refine Calls.mono (Hid.out CF) ?_; rintro e w3 ⟨rfl, b3⟩
    have TB : Hid (Lwc w w3 w.heap.size gc ao n cap P K c) := Lwc.grow TT.out b3
    clear b3 TT CF c0 c1
    have TT : Hid (Lwc w w3 w.heap.size gc ao n cap P K c) := TB.out
    clear TB
    obtain ⟨c0, c1⟩ := TT.out.o.c
    obtain ⟨a0, a1, a2, a3⟩ := c4 TT.out.f
    go_wp2_with fail
    go_region_held3 (fun w' => w'.cell? ⟨w.heap.size, 0, none⟩ = some (.slice ao n cap) ∧ w'.cell? ⟨w.heap.size, 1, none⟩ = some (.int .i64 K) ∧ w'.cell? ⟨gc, 0, none⟩ = some (.int .u64 ((wd c 0 : Nat) : Int)) ∧ w'.cell? ⟨gc, 1, none⟩ = some (.int .u64 ((wd c 1 : Nat) : Int)) ∧ w'.cell? ⟨gc, 2, none⟩ = some (.int .u64 ((wd c 2 : Nat) : Int)) ∧ w'.cell? ⟨gc, 3, none⟩ = some (.int .u64 ((wd c 3 : Nat) : Int))) (go_keep)
      (first
        | (go_at_call 10; (refine Calls.mono (CA.out _ TT.out.o.tab) ?_); rintro e vk ⟨rfl, bb⟩; have TB : Hid (Lwc w vk w.heap.size gc ao n cap P K c) := (Lwc.grow TT.out (by first | exact undrew bb | exact bb)); clear bb TT c0 c1 a0 a1 a2 a3; have TT : Hid (Lwc w vk w.heap.size gc ao n cap P K c) := TB.out; clear TB; obtain ⟨c0, c1⟩ := TT.out.o.c; obtain ⟨a0, a1, a2, a3⟩ := c4 TT.out.f)
        | (go_at_call 24; (with_reducible refine Calls.mono (CK.out _ TT.out.o.l) ?_); rintro e vk ⟨⟨ko, kc, rfl, hk⟩, bb⟩; have KK : Hid (Lf vk ko L.length (at' L)) := hk; clear hk; have TB : Hid (Lwc w vk w.heap.size gc ao n cap P K c) := (Lwc.grow TT.out (by first | exact undrew bb | exact bb)); clear bb TT c0 c1 a0 a1 a2 a3; have TT : Hid (Lwc w vk w.heap.size gc ao n cap P K c) := TB.out; clear TB; obtain ⟨c0, c1⟩ := TT.out.o.c; obtain ⟨a0, a1, a2, a3⟩ := c4 TT.out.f)
        | (go_at_call 25; (with_reducible refine Calls.mono (CJ.out _ TT.out.o.l) ?_); rintro e vk ⟨⟨jo, jc, rfl, hj⟩, bb⟩; have JJ : Hid (Lf vk jo L.length (at' L)) := hj; clear hj; have KKB : Hid (Lf vk ko L.length (at' L)) := (KK.out.grow (by first | exact undrew bb | exact bb)); clear KK; have KK : Hid (Lf vk ko L.length (at' L)) := KKB.out; clear KKB; have TB : Hid (Lwc w vk w.heap.size gc ao n cap P K c) := (Lwc.grow TT.out (by first | exact undrew bb | exact bb)); clear bb TT c0 c1 a0 a1 a2 a3; have TT : Hid (Lwc w vk w.heap.size gc ao n cap P K c) := TB.out; clear TB; obtain ⟨c0, c1⟩ := TT.out.o.c; obtain ⟨a0, a1, a2, a3⟩ := c4 TT.out.f)
        | (go_at_call 23; (with_reducible refine Calls.mono (CL.out _ _ _ _ _ KK.out JJ.out) ?_); rintro e vk ⟨rfl, bb⟩; have TB : Hid (Lwc w vk w.heap.size gc ao n cap P K c) := (Lwc.grow TT.out (by first | exact undrew bb | exact bb)); clear bb TT c0 c1 a0 a1 a2 a3; have TT : Hid (Lwc w vk w.heap.size gc ao n cap P K c) := TB.out; clear TB; obtain ⟨c0, c1⟩ := TT.out.o.c; obtain ⟨a0, a1, a2, a3⟩ := c4 TT.out.f)
        | (go_at_call 27; (with_reducible refine Calls.mono (CW.out _ TT.out.o.l) ?_); rintro e vk ⟨⟨uo, uc, rfl, hk⟩, bb⟩; have UU : Hid (Is vk uo M) := hk; clear hk; have TB : Hid (Lwc w vk w.heap.size gc ao n cap P K c) := (Lwc.grow TT.out (by first | exact undrew bb | exact bb)); clear bb TT c0 c1 a0 a1 a2 a3; have TT : Hid (Lwc w vk w.heap.size gc ao n cap P K c) := TB.out; clear TB; obtain ⟨c0, c1⟩ := TT.out.o.c; obtain ⟨a0, a1, a2, a3⟩ := c4 TT.out.f)
        | (go_at_call 28; (with_reducible refine Calls.mono (CV.out _ TT.out.o.l) ?_); rintro e vk ⟨⟨vo, vc, rfl, hj⟩, bb⟩; have VV : Hid (Is vk vo M) := hj; clear hj; have UUB : Hid (Is vk uo M) := (UU.out.grow (by first | exact undrew bb | exact bb)); clear UU; have UU : Hid (Is vk uo M) := UUB.out; clear UUB; have TB : Hid (Lwc w vk w.heap.size gc ao n cap P K c) := (Lwc.grow TT.out (by first | exact undrew bb | exact bb)); clear bb TT c0 c1 a0 a1 a2 a3; have TT : Hid (Lwc w vk w.heap.size gc ao n cap P K c) := TB.out; clear TB; obtain ⟨c0, c1⟩ := TT.out.o.c; obtain ⟨a0, a1, a2, a3⟩ := c4 TT.out.f)
        | (go_at_call 26; (with_reducible refine Calls.mono (CQ.out _ _ _ _ _ UU.out VV.out) ?_); rintro e vk ⟨rfl, bb⟩; have TB : Hid (Lwc w vk w.heap.size gc ao n cap P K c) := (Lwc.grow TT.out (by first | exact undrew bb | exact bb)); clear bb TT c0 c1 a0 a1 a2 a3; have TT : Hid (Lwc w vk w.heap.size gc ao n cap P K c) := TB.out; clear TB; obtain ⟨c0, c1⟩ := TT.out.o.c; obtain ⟨a0, a1, a2, a3⟩ := c4 TT.out.f))
    go_wp2_with fail
    go_ret
    exact ⟨rfl, TT.out.o.bel⟩
  · have CF : Hid _ := few07_any n cap ao K w2 hp.small false (by simp [hn])
    clear b1 b2 hT hp
    go_enter Tryd.func6, Tryd.ntmps6
    go_wp2_with fail
    rw [← E1.out, ← E2.out, HS.out]
    clear E1 E2 HS
    refine Calls.mono (Hid.out CF) ?_; rintro e w3 ⟨rfl, b3⟩
    have T3 : Hid (TabB w3) := T2.out.grow b3
    have B3 : Hid (Below w.heap.size w w3) := B2.out.trans (b3.mono B2.out.size)
    clear b3
    go_wp2_with fail
    refine Calls.mono (CA.out w3 T3.out) ?_; rintro e w4 ⟨rfl, b4⟩
    have B4 : Hid (Below w.heap.size w w4) := B3.out.trans (b4.mono B3.out.size)
    clear b4
    go_wp2_with fail
    go_ret
    exact ⟨rfl, B4.out⟩

end Go.Proofs.YtcohcdebbkfdfaaDoor.leafKinds
