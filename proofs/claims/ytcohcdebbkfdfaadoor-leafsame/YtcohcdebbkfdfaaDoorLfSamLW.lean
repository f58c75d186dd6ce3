/- The walk of 'beaglelaw07.LeafSame': it answers true; nothing that was there is turned. For the statement's proof. -/
import Derived.OpenShut
import Derived.ProofKit
import Derived.Test.YtcohcdebbkfdfaaDoorLfSame
import Derived.Deep.DeepCutAuto
namespace Go.Proofs.YtcohcdebbkfdfaaDoor.leafSame
open Go.ChangeShapes Go.WideShapes Go.ChangeAt Go.RowKit Cls
set_option linter.unusedVariables false

set_option maxHeartbeats 4000000 in
theorem walk (ao : Option Addr) (n cap : Nat) (P : Nat → Nat → Bool) (K : Int) (bo : Option Addr) (m dap : Nat) (Q : Nat → Nat → Bool) (J : Int) (w : World) (hp : Lp w ao n P) (hq : Lp w bo m Q) (hT : TabB w) :
    Calls Tryd.prog 8 #[.agg #[.slice ao n cap, .int .i64 K], .agg #[.slice bo m dap, .int .i64 J]] w fun e w' => e = .returned (.bool true) ∧ Below w.heap.size w w' := by
  obtain ⟨w1, b1⟩ := lbox w (.slice ao n cap) (.int .i64 K)
  obtain ⟨w2, b2⟩ := lbox w1 (.slice bo m dap) (.int .i64 J)
  have E1 : Hid _ := b1.eq
  have E2 : Hid _ := b2.eq
  have s1 : w.heap.size < w1.heap.size := by have := b1.size; omega
  have HS : Hid (w.heap.size + 1 = w1.heap.size) := b1.size.symm
  have B2 : Hid (Below w.heap.size w w2) := b1.bel.trans (b2.bel.mono b1.bel.size)
  have T2 : Hid (TabB w2) := hT.grow B2.out
  have hc := two_below ⟨b1.c0, b1.c1⟩ b2.bel s1
  obtain ⟨c0, c1⟩ := hc
  have d0 := b2.c0
  have d1 := b2.c1
  have CA : Hid _ := fun (v : World) (hv : TabB v) => alive07_any v hv
  clear s1
  by_cases hn : n ≤ 100 ∧ m ≤ 100
  · have TT : Hid (Lw2 w w2 w.heap.size w1.heap.size ao n cap P K bo m dap Q J) := ⟨⟨B2.out, ⟨c0, c1⟩, (hp.grow B2.out).lf hn.1, T2.out⟩, ⟨B2.out, ⟨d0, d1⟩, (hq.grow B2.out).lf hn.2, T2.out⟩⟩
    have CF : Hid _ := fun (v : World) => few07_any n cap ao K v hp.small true (by simp [hn])
    have CG : Hid _ := fun (v : World) => few07_any m dap bo J v hq.small true (by simp [hn])
    have CT : Hid (∀ v : World, Calls Tryd.prog 17 #[.string ⟨#[97, 98]⟩, .int .i64 K] v fun e w' => (∃ g d, e = .returned (.agg #[.slice (some ⟨g, 0, none⟩) 2 d, .int .i64 K]) ∧ Tn v w' g ab7) ∧ Below v.heap.size v w') := fun v => text_core ab7 K v (by decide)
    have CU : Hid (∀ v : World, Calls Tryd.prog 30 #[] v fun e w' => e = .returned (.agg #[.int .u64 ((wd (fun _ => true) 0 : Nat) : Int), .int .u64 ((wd (fun _ => true) 1 : Nat) : Int), .int .u64 ((wd (fun _ => true) 2 : Nat) : Int), .int .u64 ((wd (fun _ => true) 3 : Nat) : Int)]) ∧ Below v.heap.size v w') := full_any
    obtain ⟨q, hq'⟩ : ∃ q, sml P n K Q m J = q := ⟨_, rfl⟩
    have S1 : Hid _ := fun (v : World) (h1 : Lf v ao n P) (h2 : Lf v bo m Q) => same_any P Q n m cap dap ao bo K J v h1 h2
    have S2 : Hid _ := fun (v : World) (h1 : Lf v ao n P) (h2 : Lf v ao n P) => same_any P P n n cap cap ao ao K K v h1 h2
    have S3 : Hid _ := fun (v : World) (h1 : Lf v bo m Q) (h2 : Lf v ao n P) => same_any Q P m n dap cap bo ao J K v h1 h2
    have R1 : Hid _ := fun (v : World) (h1 : Lf v ao n P) (h2 : Lf v bo m Q) => refSame_any P Q n m cap dap ao bo K J v h1 h2
    rw [hq'] at S1 R1
    rw [sml_refl] at S2
    rw [sml_comm, hq'] at S3
    have RT : Hid (∀ v : World, Calls Tryd.prog 20 #[.string ⟨#[97, 98]⟩, .int .i64 K] v fun e w' => (∃ bo d, e = .returned (.agg #[.slice bo 2 d, .int .i64 K]) ∧ Lf w' bo 2 (tx ab7)) ∧ Below v.heap.size v w') := fun v => refText_any ab7 K v (by decide)
    have R2 : Hid (∀ (v : World) (g2 e2 : Nat) (x : Option Addr) (d : Nat), Lf v (some ⟨g2, 0, none⟩) 2 (tx ab7) → Lf v x 2 (tx ab7) → Calls Tryd.prog 19 #[.agg #[.slice (some ⟨g2, 0, none⟩) 2 e2, .int .i64 K], .agg #[.slice x 2 d, .int .i64 K]] v fun e w' => e = .returned (.bool true) ∧ Below v.heap.size v w') := fun v g2 e2 x d h1 h2 => by
      have h := refSame_any (tx ab7) (tx ab7) 2 2 e2 d (some ⟨g2, 0, none⟩) x K K v h1 h2
      rw [sml_refl] at h
      exact h
    have eq : (q == q) = true := by simp
    generalize w1.heap.size = gb at *
    clear b1 b2 hT hp hq T2 B2 hq'
    go_enter Tryd.func8, Tryd.ntmps8
    go_wp2_with fail
    rw [← E1.out, ← E2.out, HS.out]
    clear E1 E2 HS
    refine Calls.mono (CF.out _) ?_; rintro e w3 ⟨rfl, b3⟩
    have TB : Hid (Lw2 w w3 w.heap.size gb ao n cap P K bo m dap Q J) := Lw2.grow TT.out b3
    clear b3 TT c0 c1 d0 d1
    have TT : Hid (Lw2 w w3 w.heap.size gb ao n cap P K bo m dap Q J) := TB.out
    clear TB
    obtain ⟨c0, c1⟩ := TT.out.a.c
    obtain ⟨d0, d1⟩ := TT.out.b.c
    go_wp2_with fail
    refine Calls.mono (CG.out _) ?_; rintro e w4 ⟨rfl, b4⟩
    have TB : Hid (Lw2 w w4 w.heap.size gb ao n cap P K bo m dap Q J) := Lw2.grow TT.out b4
    clear b4 TT c0 c1 d0 d1
    have TT : Hid (Lw2 w w4 w.heap.size gb ao n cap P K bo m dap Q J) := TB.out
    clear TB CF CG
    have c1 := TT.out.a.c.2
    have lc : w.heap.size < w4.heap.size := World.block_lt_of_cell? w4 _ c1
    go_wp2_with fail
    go_cut [5, 6] (fun v5 v6 wc => ∃ bs bt g1 g2 e1 e2 : Nat, v5 = .pointer (some ⟨bs, 0, none⟩) ∧ v6 = .pointer (some ⟨bt, 0, none⟩) ∧ Fs w4 wc bs bt g1 g2 e1 e2 K)
    case first =>
      go_region_held3 (fun w' => w'.cell? ⟨w.heap.size, 1, none⟩ = some (.int .i64 K)) (go_keep)
        (first
          | (go_at_call 17; (refine Calls.mono (CT.out _) ?_); rintro e vk ⟨⟨g2, e2, rfl, hn2⟩, bb⟩; (first | have YY : Hid _ := Zs.call ZZ.out bb hn2 | have YY : Hid _ := Zs.call ZZ.out (undrew bb) (Tn.drewN hn2) | have YY : Hid _ := Zs.call (Zs.zero ZZ.out) bb hn2 | have YY : Hid _ := Zs.call (Zs.zero ZZ.out) (undrew bb) (Tn.drewN hn2) | have YY : Hid _ := Zs.call (Zs.zero2 ZZ.out) bb hn2 | have YY : Hid _ := Zs.call (Zs.zero2 ZZ.out) (undrew bb) (Tn.drewN hn2)); (try clear x0 x1 y0 y1 xl xt hx1 hx2 hx3 hx4); (try clear z0 z1 u0 u1 zl zt hz1 hz2 hz3 hz4); (try clear hn5 hn6); clear bb hn2 ZZ c1; have c1 := (Lw2.grow TT.out YY.out.bel).a.c.2; (try (obtain ⟨x0, x1, y0, y1, xl, xt⟩ := Zs.at YY.out (List.mem_cons_self); have hx1 := Nat.ne_of_lt xt; have hx2 := Nat.ne_of_gt xt; have hx3 := Nat.ne_of_lt (Nat.lt_of_lt_of_le lc xl); have hx4 := Nat.ne_of_gt (Nat.lt_of_lt_of_le lc xl))); (try (obtain ⟨hn5, hn6⟩ := Zs.ne2 YY.out)); (try (obtain ⟨z0, z1, u0, u1, zl, zt⟩ := Zs.at YY.out (List.mem_cons_of_mem _ List.mem_cons_self); have hz1 := Nat.ne_of_lt zt; have hz2 := Nat.ne_of_gt zt; have hz3 := Nat.ne_of_lt (Nat.lt_of_lt_of_le lc zl); have hz4 := Nat.ne_of_gt (Nat.lt_of_lt_of_le lc zl))))
          | (go_at_call 17; (refine Calls.mono (CT.out _) ?_); rintro e vk ⟨⟨g1, e1, rfl, hn1⟩, bb⟩; (first | have ZZ : Hid _ := Zs.call (Zs.nil w4 FZ) (undrew bb) (Tn.drewN hn1) | have ZZ : Hid _ := Zs.call (Zs.zero (Zs.nil w4 FZ)) (undrew bb) (Tn.drewN hn1) | have ZZ : Hid _ := Zs.call (Zs.zero2 (Zs.nil w4 FZ)) (undrew bb) (Tn.drewN hn1)); clear bb hn1 c1; have c1 := (Lw2.grow TT.out ZZ.out.bel).a.c.2; (try (obtain ⟨x0, x1, y0, y1, xl, xt⟩ := Zs.at ZZ.out (List.mem_cons_self); have hx1 := Nat.ne_of_lt xt; have hx2 := Nat.ne_of_gt xt; have hx3 := Nat.ne_of_lt (Nat.lt_of_lt_of_le lc xl); have hx4 := Nat.ne_of_gt (Nat.lt_of_lt_of_le lc xl))); (try (obtain ⟨hn5, hn6⟩ := Zs.ne2 ZZ.out)); (try (obtain ⟨z0, z1, u0, u1, zl, zt⟩ := Zs.at ZZ.out (List.mem_cons_of_mem _ List.mem_cons_self); have hz1 := Nat.ne_of_lt zt; have hz2 := Nat.ne_of_gt zt; have hz3 := Nat.ne_of_lt (Nat.lt_of_lt_of_le lc zl); have hz4 := Nat.ne_of_gt (Nat.lt_of_lt_of_le lc zl)))))
      all_goals
        go_wp2_with fail
        go_meet
        refine ⟨_, _, g1, g2, e1, e2, rfl, rfl, ?_⟩
        first
          | with_reducible exact Zs.nn YY.out
          | with_reducible exact Zs.nn' YY.out
          | with_reducible exact Zs.pn YY.out List.mem_cons_self
          | with_reducible exact Zs.np YY.out List.mem_cons_self
          | with_reducible exact Zs.pp YY.out List.mem_cons_self (List.mem_cons_of_mem _ List.mem_cons_self) (Zs.ne2 YY.out).1
          | with_reducible exact Zs.pp YY.out (List.mem_cons_of_mem _ List.mem_cons_self) List.mem_cons_self (Zs.ne2 YY.out).2
    case rest =>
      obtain ⟨bs, bt, g1, g2, e1, e2, rfl, rfl, hF⟩ := hcut
      have FF : Hid (Fs w4 wc bs bt g1 g2 e1 e2 K) := hF
      clear hF c1
      have q0 := FF.out.cs.1
      go_wp2_with fail
      clear q0
      go_loopw [26] (fun vk wr => ∃ k : Nat, k ≤ 2 ∧ vk = .int .i64 k ∧ Fs w4 wr bs bt g1 g2 e1 e2 K) (fun vk _ => 2 - (intOf vk).toNat)
      case atStart => exact ⟨0, Nat.zero_le _, rfl, FF.out⟩
      case round =>
        obtain ⟨k, hk, rfl, hF⟩ := hrel
        have FR : Hid (Fs w4 wr bs bt g1 g2 e1 e2 K) := hF
        clear hF FF
        by_cases hkn : k < 2
        · have hkI : (k : Int) < 2 := by omega
          have hk0 : (0 : Int) ≤ (k : Int) := by omega
          have q0 := FR.out.cs.1
          go_wp2_with fail
          go_region_held3 (fun w' => w'.cell? ⟨bs, 0, none⟩ = some (.slice (some ⟨g1, 0, none⟩) 2 e1)) (go_keep)
            (first
              | (go_at_call 30; (refine Calls.mono (CU.out _) ?_); rintro e vk ⟨rfl, bb⟩; have F2 : Hid (Fs w4 vk bs bt g1 g2 e1 e2 K) := Fs.grow FR.out (by first | exact undrew bb | exact bb); clear bb q0; have q0 := F2.out.cs.1; obtain ⟨QQ, hQQ⟩ := F2.out.r1; obtain ⟨a0, a1, a2, a3⟩ := hQQ.four hkn; rw [Nat.zero_add] at a0 a1 a2 a3; have f0 := Wrt.zero F2.out.f1 (k * 4) (by omega); have f1 := Wrt.zero F2.out.f1 (k * 4 + 1) (by omega); have f2 := Wrt.zero F2.out.f1 (k * 4 + 2) (by omega); have f3 := Wrt.zero F2.out.f1 (k * 4 + 3) (by omega); have hne := F2.out.ns; have hne' := Ne.symm F2.out.ns; have F4 : Hid (Fs w4 (put4 vk g1 k (fun _ => true)) bs bt g1 g2 e1 e2 K) := Fs.put F2.out hkn _; clear hQQ))
          go_wp2_with fail
          go_roundw
          case rel => exact ⟨k + 1, by omega, by go_num, F4.out⟩
          case measure => simp [intOf]; omega
        · obtain rfl : k = 2 := by omega
          have TB : Hid (Ls w wr w.heap.size gb ao n cap P K bo m dap Q J bt g2 e2) := Fs.ls FR.out TT.out
          clear TT FR hkn hk
          have TT : Hid (Ls w wr w.heap.size gb ao n cap P K bo m dap Q J bt g2 e2) := TB.out
          clear TB CT CU
          obtain ⟨c0, c1⟩ := TT.out.o.a.c
          obtain ⟨d0, d1⟩ := TT.out.o.b.c
          obtain ⟨t0, t1⟩ := TT.out.ct
          go_wp2_with fail
          go_region_held3 (fun w' => w'.cell? ⟨w.heap.size, 0, none⟩ = some (.slice ao n cap) ∧ w'.cell? ⟨w.heap.size, 1, none⟩ = some (.int .i64 K) ∧ w'.cell? ⟨gb, 0, none⟩ = some (.slice bo m dap) ∧ w'.cell? ⟨gb, 1, none⟩ = some (.int .i64 J) ∧ w'.cell? ⟨bt, 0, none⟩ = some (.slice (some ⟨g2, 0, none⟩) 2 e2) ∧ w'.cell? ⟨bt, 1, none⟩ = some (.int .i64 K)) (go_keep)
      (first
        | (go_at_call 10; (refine Calls.mono (CA.out _ TT.out.o.a.tab) ?_); rintro e vk ⟨rfl, bb⟩; have TB : Hid (Ls w vk w.heap.size gb ao n cap P K bo m dap Q J bt g2 e2) := (Ls.grow TT.out (by first | exact undrew bb | exact bb)); clear bb TT c0 c1 d0 d1 t0 t1; have TT : Hid (Ls w vk w.heap.size gb ao n cap P K bo m dap Q J bt g2 e2) := TB.out; clear TB; obtain ⟨c0, c1⟩ := TT.out.o.a.c; obtain ⟨d0, d1⟩ := TT.out.o.b.c; obtain ⟨t0, t1⟩ := TT.out.ct)
        | (go_at_call 22; (with_reducible refine Calls.mono (S1.out _ TT.out.o.a.l TT.out.o.b.l) ?_); rintro e vk ⟨rfl, bb⟩; have TB : Hid (Ls w vk w.heap.size gb ao n cap P K bo m dap Q J bt g2 e2) := (Ls.grow TT.out (by first | exact undrew bb | exact bb)); clear bb TT c0 c1 d0 d1 t0 t1; have TT : Hid (Ls w vk w.heap.size gb ao n cap P K bo m dap Q J bt g2 e2) := TB.out; clear TB; obtain ⟨c0, c1⟩ := TT.out.o.a.c; obtain ⟨d0, d1⟩ := TT.out.o.b.c; obtain ⟨t0, t1⟩ := TT.out.ct)
        | (go_at_call 22; (with_reducible refine Calls.mono (S2.out _ TT.out.o.a.l TT.out.o.a.l) ?_); rintro e vk ⟨rfl, bb⟩; have TB : Hid (Ls w vk w.heap.size gb ao n cap P K bo m dap Q J bt g2 e2) := (Ls.grow TT.out (by first | exact undrew bb | exact bb)); clear bb TT c0 c1 d0 d1 t0 t1; have TT : Hid (Ls w vk w.heap.size gb ao n cap P K bo m dap Q J bt g2 e2) := TB.out; clear TB; obtain ⟨c0, c1⟩ := TT.out.o.a.c; obtain ⟨d0, d1⟩ := TT.out.o.b.c; obtain ⟨t0, t1⟩ := TT.out.ct)
        | (go_at_call 22; (with_reducible refine Calls.mono (S3.out _ TT.out.o.b.l TT.out.o.a.l) ?_); rintro e vk ⟨rfl, bb⟩; have TB : Hid (Ls w vk w.heap.size gb ao n cap P K bo m dap Q J bt g2 e2) := (Ls.grow TT.out (by first | exact undrew bb | exact bb)); clear bb TT c0 c1 d0 d1 t0 t1; have TT : Hid (Ls w vk w.heap.size gb ao n cap P K bo m dap Q J bt g2 e2) := TB.out; clear TB; obtain ⟨c0, c1⟩ := TT.out.o.a.c; obtain ⟨d0, d1⟩ := TT.out.o.b.c; obtain ⟨t0, t1⟩ := TT.out.ct)
        | (go_at_call 19; (with_reducible refine Calls.mono (R1.out _ TT.out.o.a.l TT.out.o.b.l) ?_); rintro e vk ⟨rfl, bb⟩; have TB : Hid (Ls w vk w.heap.size gb ao n cap P K bo m dap Q J bt g2 e2) := (Ls.grow TT.out (by first | exact undrew bb | exact bb)); clear bb TT c0 c1 d0 d1 t0 t1; have TT : Hid (Ls w vk w.heap.size gb ao n cap P K bo m dap Q J bt g2 e2) := TB.out; clear TB; obtain ⟨c0, c1⟩ := TT.out.o.a.c; obtain ⟨d0, d1⟩ := TT.out.o.b.c; obtain ⟨t0, t1⟩ := TT.out.ct)
        | (go_at_call 20; (with_reducible refine Calls.mono (RT.out _) ?_); rintro e vk ⟨⟨xo, xc, rfl, hk⟩, bb⟩; have XX : Hid (Lf vk xo 2 (tx ab7)) := hk; clear hk; have TB : Hid (Ls w vk w.heap.size gb ao n cap P K bo m dap Q J bt g2 e2) := (Ls.grow TT.out (by first | exact undrew bb | exact bb)); clear bb TT c0 c1 d0 d1 t0 t1; have TT : Hid (Ls w vk w.heap.size gb ao n cap P K bo m dap Q J bt g2 e2) := TB.out; clear TB; obtain ⟨c0, c1⟩ := TT.out.o.a.c; obtain ⟨d0, d1⟩ := TT.out.o.b.c; obtain ⟨t0, t1⟩ := TT.out.ct)
        | (go_at_call 19; (with_reducible refine Calls.mono (R2.out _ _ _ _ _ TT.out.l XX.out) ?_); rintro e vk ⟨rfl, bb⟩; have TB : Hid (Ls w vk w.heap.size gb ao n cap P K bo m dap Q J bt g2 e2) := (Ls.grow TT.out (by first | exact undrew bb | exact bb)); clear bb TT c0 c1 d0 d1 t0 t1; have TT : Hid (Ls w vk w.heap.size gb ao n cap P K bo m dap Q J bt g2 e2) := TB.out; clear TB; obtain ⟨c0, c1⟩ := TT.out.o.a.c; obtain ⟨d0, d1⟩ := TT.out.o.b.c; obtain ⟨t0, t1⟩ := TT.out.ct))
          go_wp2_with fail
          go_ret
          exact ⟨rfl, TT.out.o.a.bel⟩
  · have CF : Hid (∀ v : World, Calls Tryd.prog 9 #[.agg #[.slice ao n cap, .int .i64 K]] v fun e w' => e = .returned (.bool (decide (n ≤ 100))) ∧ Below v.heap.size v w') := fun v => few07_any n cap ao K v hp.small _ rfl
    have CG : Hid (∀ v : World, Calls Tryd.prog 9 #[.agg #[.slice bo m dap, .int .i64 J]] v fun e w' => e = .returned (.bool (decide (m ≤ 100))) ∧ Below v.heap.size v w') := fun v => few07_any m dap bo J v hq.small _ rfl
    have D2 : Hid (w2.cell? ⟨w1.heap.size, 0, none⟩ = some (.slice bo m dap) ∧ w2.cell? ⟨w1.heap.size, 1, none⟩ = some (.int .i64 J)) := ⟨d0, d1⟩
    have dl : w1.heap.size < w2.heap.size := World.block_lt_of_cell? w2 _ d0
    generalize w1.heap.size = gb at *
    clear b1 b2 hT hp hq
    by_cases hn1 : n ≤ 100
    · have hm : ¬ m ≤ 100 := fun h => hn ⟨hn1, h⟩
      rw [decide_eq_true hn1] at CF
      rw [decide_eq_false hm] at CG
      go_enter Tryd.func8, Tryd.ntmps8
      go_wp2_with fail
      rw [← E1.out, ← E2.out, HS.out]
      clear E1 E2 HS
      refine Calls.mono (CF.out _) ?_; rintro e w3 ⟨rfl, b3⟩
      obtain ⟨p0, p1⟩ := two_below D2.out b3 dl
      have T3 : Hid (TabB w3) := T2.out.grow b3
      have B3 : Hid (Below w.heap.size w w3) := B2.out.trans (b3.mono B2.out.size)
      clear b3 c0 c1 d0 d1
      go_wp2_with fail
      refine Calls.mono (CG.out _) ?_; rintro e w4 ⟨rfl, b4⟩
      have T4 : Hid (TabB w4) := T3.out.grow b4
      have B4 : Hid (Below w.heap.size w w4) := B3.out.trans (b4.mono B3.out.size)
      clear b4 p0 p1
      go_wp2_with fail
      refine Calls.mono (CA.out w4 T4.out) ?_; rintro e w5 ⟨rfl, b5⟩
      have B5 : Hid (Below w.heap.size w w5) := B4.out.trans (b5.mono B4.out.size)
      clear b5
      go_wp2_with fail
      go_ret
      exact ⟨rfl, B5.out⟩
    · rw [decide_eq_false hn1] at CF
      go_enter Tryd.func8, Tryd.ntmps8
      go_wp2_with fail
      rw [← E1.out, ← E2.out, HS.out]
      clear E1 E2 HS
      refine Calls.mono (CF.out _) ?_; rintro e w3 ⟨rfl, b3⟩
      have T3 : Hid (TabB w3) := T2.out.grow b3
      have B3 : Hid (Below w.heap.size w w3) := B2.out.trans (b3.mono B2.out.size)
      clear b3 c0 c1 d0 d1
      go_wp2_with fail
      refine Calls.mono (CA.out w3 T3.out) ?_; rintro e w5 ⟨rfl, b5⟩
      have B5 : Hid (Below w.heap.size w w5) := B3.out.trans (b5.mono B3.out.size)
      clear b5
      go_wp2_with fail
      go_ret
      exact ⟨rfl, B5.out⟩

end Go.Proofs.YtcohcdebbkfdfaaDoor.leafSame
