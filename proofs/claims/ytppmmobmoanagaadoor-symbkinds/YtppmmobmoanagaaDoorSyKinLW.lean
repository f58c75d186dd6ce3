/- The walk of 'beaglelaw11.SymbKinds': it answers true; nothing that was there is turned. For the statement's proof. -/
import Derived.OpenShut
import Derived.ProofKit
import Derived.Test.YtppmmobmoanagaaDoorSyAl
namespace Go.Proofs.YtppmmobmoanagaaDoor.symbKinds
open Go.ChangeShapes Go.WideShapes Go.ChangeAt Go.RowKit Cls
set_option linter.unusedVariables false

/-- What lies below a block is as it was. -/
theorem ly_low {w wk w' : World} {g gh n cap : Nat} {ao : Option Addr} {P : Nat → Nat → Bool} {K : Int} (h : Ly w wk g ao n cap P K) (b : Below gh wk w') (h1 : w.heap.size ≤ gh) (h2 : g < gh) (h3 : ∀ k, (1 ≤ n ∧ ∃ o, ao = some ⟨k, o, none⟩) → k < gh) (h4 : 0 < gh) : Ly w w' g ao n cap P K :=
  ⟨h.bel.trans (b.mono h1), two_below h.c b h2, h.l.kept (Fr.of_below (A := fun k => k < gh) b (fun _ _ hk => hk)) (fun k _ hh => h3 k hh), h.ta.below b h4⟩

/-- A leaf in a box, a class in another one, and the table of primes. -/
structure Lyc (w wk : World) (g gc : Nat) (ao : Option Addr) (n cap : Nat) (P : Nat → Nat → Bool) (K : Int) (c : Nat → Bool) : Prop where
  o : Ly w wk g ao n cap P K
  f : Fam wk gc 0 4 (wi c)

theorem Lyc.grow {w wk w' : World} {g gc : Nat} {ao : Option Addr} {n cap : Nat} {P : Nat → Nat → Bool} {K : Int} {c : Nat → Bool} (h : Lyc w wk g gc ao n cap P K c) (b : Below wk.heap.size wk w') : Lyc w w' g gc ao n cap P K c :=
  ⟨h.o.grow b, h.f.below b (h.f.lt (by omega))⟩

set_option maxRecDepth 4000 in
set_option maxHeartbeats 4000000 in
theorem walk (ao : Option Addr) (n cap : Nat) (P : Nat → Nat → Bool) (K : Int) (t : ByteArray) (z : Int) (w : World) (hp : Lp w ao n P) (ht : t.size ≤ maxLen) (hz : (Lit.int .i64 z).wf = true) (hA : Tab w) :
    Calls Tryd.prog 6 #[.agg #[.slice ao n cap, .int .i64 K], .string t, .int .i64 z] w fun e w' => e = .returned (.bool true) ∧ Below w.heap.size w w' := by
  obtain ⟨w1, b1⟩ := lbox w (.slice ao n cap) (.int .i64 K)
  have E1 : Hid _ := b1.eq
  have B1 : Hid (Below w.heap.size w w1) := b1.bel
  have A1 : Hid (Tab w1) := hA.below b1.bel (tab_lt hA)
  have c0 := b1.c0
  have c1 := b1.c1
  have CA : Hid _ := fun (v : World) (hu : Tab v) => alive11_any v hu
  unfold maxLen at ht
  have hsm := hp.small
  have CF : Hid _ := few11_any n cap ao K t (by omega) hsm w1
  by_cases hn : n ≤ 100 ∧ t.size ≤ 300
  · rw [decide_eq_true hn] at CF
    obtain ⟨hn1, hn2⟩ := hn
    have hpr : Hid (0 < w.heap.size) := tab_lt hA
    have TT : Hid (Ly w w1 w.heap.size ao n cap P K) := ⟨b1.bel, ⟨b1.c0, b1.c1⟩, (hp.grow b1.bel).lf hn1, A1.out⟩
    have HAo : Hid (∀ k, (1 ≤ n ∧ ∃ o, ao = some ⟨k, o, none⟩) → k < w1.heap.size) := fun k ⟨h1, o, e⟩ => by
      obtain ⟨b, o', e', hlt, _⟩ := TT.out.l.lies h1
      rw [e'] at e
      cases e
      exact hlt
    have CR : Hid _ := fun (v : World) (h : Lf v ao n P) => refRight_any P n cap ao K v h
    have y1 : w.heap.size < w1.heap.size := by have := b1.size; omega
    clear b1 hA hp A1 B1 hz
    cases hr : rgt P n K with
    | false =>
      rw [hr] at CR
      clear hr
      go_enter Tryd.func6, Tryd.ntmps6
      go_wp2_with (first | rw [← E1.out])
      clear E1
      refine Calls.mono (Hid.out CF) ?_; rintro e w2 ⟨rfl, b2⟩
      have T2 : Hid (Ly w w2 w.heap.size ao n cap P K) := Ly.grow TT.out b2
      clear b2 TT c0 c1 CF
      obtain ⟨c0, c1⟩ := T2.out.c
      go_wp2_with fail
      refine Calls.mono (CR.out w2 T2.out.l) ?_; rintro e w3 ⟨rfl, b3⟩
      have T3 : Hid (Ly w w3 w.heap.size ao n cap P K) := Ly.grow T2.out b3
      clear b3 T2 c0 c1
      go_wp2_with fail
      refine Calls.mono (CA.out w3 T3.out.ta) ?_; rintro e w4 ⟨rfl, b4⟩
      have T4 : Hid (Ly w w4 w.heap.size ao n cap P K) := Ly.grow T3.out b4
      clear b4 T3
      go_wp2_with fail
      go_ret
      exact ⟨rfl, T4.out.bel⟩
    | true =>
      rw [hr] at CR
      obtain ⟨h1, h64, _, _⟩ := rgt_len hr
      by_cases hm : t.size < n
      · have hmI : (t.size : Int) < (n : Int) := by omega
        clear hr
        go_enter Tryd.func6, Tryd.ntmps6
        go_wp2_with (first | rw [← E1.out])
        clear E1
        refine Calls.mono (Hid.out CF) ?_; rintro e w2 ⟨rfl, b2⟩
        have T2 : Hid (Ly w w2 w.heap.size ao n cap P K) := Ly.grow TT.out b2
        clear b2 TT c0 c1 CF
        obtain ⟨c0, c1⟩ := T2.out.c
        go_wp2_with fail
        refine Calls.mono (CR.out w2 T2.out.l) ?_; rintro e w3 ⟨rfl, b3⟩
        have T3 : Hid (Ly w w3 w.heap.size ao n cap P K) := Ly.grow T2.out b3
        clear b3 T2 c0 c1
        obtain ⟨c0, c1⟩ := T3.out.c
        go_wp2_with fail
        refine Calls.mono (CA.out w3 T3.out.ta) ?_; rintro e w4 ⟨rfl, b4⟩
        have T4 : Hid (Ly w w4 w.heap.size ao n cap P K) := Ly.grow T3.out b4
        clear b4 T3
        go_wp2_with fail
        go_ret
        exact ⟨rfl, T4.out.bel⟩
      · have hmI : ¬ (t.size : Int) < (n : Int) := by omega
        obtain ⟨N, hN⟩ : ∃ N, t.size - n + 1 = N := ⟨_, rfl⟩
        have hNI : (t.size : Int) - (n : Int) + 1 = (N : Int) := by omega
        have hN1 : 1 ≤ N ∧ N ≤ 301 := by omega
        have hw1 : IntKind.i64.wrap ((t.size : Int) - (n : Int)) = (t.size : Int) - (n : Int) := by rw [IntKind.wrap_i64]; omega
        have hw2 : IntKind.i64.wrap ((t.size : Int) - (n : Int) + 1) = (N : Int) := by rw [hNI, IntKind.wrap_i64]; omega
        have hb1 : ∀ b : Bool, (b.toNat : Int) ≤ 18446744073709551615 := fun b => by have := bool_le b; omega
        -- what sliding tells
        obtain ⟨NX, Q, E, hE, CC⟩ : ∃ (NX : Nat) (Q E : Int), ((E = 0 ∧ NX = N) ∨ (E = 50 ∧ NX = 0)) ∧ Hid (∀ (c : Nat → Bool) (p h : Nat) (v : World), Tab v → Fam v p 0 n (kp P c) → Fam v h 0 t.size (km t c) → Calls Tryd.prog 24 #[.slice (some ⟨p, 0, none⟩) n n, .slice (some ⟨h, 0, none⟩) t.size t.size, .int .i64 z] v fun e w' => (∃ so sc, e = .returned (.tuple #[.slice so NX sc, .int .i64 Q, .int .i64 E]) ∧ Lies w' so NX (fun i => hk P t i c n)) ∧ Below v.heap.size v w') := by
          have all := fun (c : Nat → Bool) (p h : Nat) (v : World) (hT : Tab v) (fp : Fam v p 0 n (kp P c)) (fh : Fam v h 0 t.size (km t c)) => bcor_any (some ⟨p, 0, none⟩) (some ⟨h, 0, none⟩) n t.size n t.size z (by omega) (by omega) (Nat.le_refl _) (kp P c) (km t c) (fun t => (bool_le _).1) (fun t => (bool_le _).1) (fun t => hb1 _) (fun t => hb1 _) v hT (fun _ => ⟨p, 0, rfl, fp⟩) (fun _ => ⟨h, 0, rfl, fh⟩)
          have bm := fun (c : Nat → Bool) => bc_marks (n := n) (m := t.size) (z := z) h1 (by omega) (by omega) (kp P c) (km t c) (fun t => (bool_le _).2) (fun t => (bool_le _).2)
          cases hz : Res.szb n z with
          | true => exact ⟨N, Res.ct n t.size z, 0, .inl ⟨rfl, rfl⟩, fun c p h v hT fp fh => (all c p h v hT fp fh).mono (by
              obtain ⟨e0, e1, e2⟩ := (bm c).1 hz
              rw [e0, e1, e2, hN]
              rintro e w' ⟨so, sc, rfl, hl, hb⟩
              exact ⟨⟨so, sc, rfl, hl⟩, hb⟩)⟩
          | false => exact ⟨0, 0, 50, .inr ⟨rfl, rfl⟩, fun c p h v hT fp fh => (all c p h v hT fp fh).mono (by
              obtain ⟨e0, e1, e2⟩ := (bm c).2 hz
              rw [e0, e1, e2]
              rintro e w' ⟨so, sc, rfl, hl, hb⟩
              exact ⟨⟨so, sc, rfl, hl⟩, hb⟩)⟩
        have CPl : Hid _ := fun (c : Nat → Bool) (v : World) (h : Lf v ao n P) => places11_any P c n cap ao K (by omega) v h
        have CMk : Hid _ := fun (c : Nat → Bool) (v : World) => marks_any c t (by omega) v
        have CK : Hid _ := fun (v : World) (h : Lf v ao n P) => kinds_core P n cap ao K v h
        have CN : Hid _ := fun (v : World) (h : Lf v ao n P) => refCounts_any P n cap ao K t (by omega) v h
        have CB : Hid _ := fun (v : World) (h : Lf v ao n P) => bound_any P n cap ao K v h
        have HLN : Hid ((cts P n K t).length = N) := by show _ = _; rw [cts_len, stn_yes hr (by omega)]; exact hN
        have HLC : Hid (∀ i, (h : i < (cts P n K t).length) → (cts P n K t)[i] = mis P t i n) := fun i h => cts_at P n K t i h
        have hkl := kinds_le P n
        have HTS : Hid _ := take_succ_kd P n
        have HTA : Hid (∀ i, hs P t i n ((kd P n).take (kd P n).length) = (bnd P n : Int) - (mis P t i n : Int)) := fun i => by rw [List.take_length]; exact hs_kinds' P t i n
        have hbn := bnd_le P n
        obtain ⟨L, hL⟩ : ∃ L, kd P n = L := ⟨_, rfl⟩
        rw [hL] at CK hkl HTS HTA
        obtain ⟨m, hmm⟩ : ∃ m, L.length = m := ⟨_, rfl⟩
        rw [hmm] at CK hkl HTS HTA
        have HLB : Hid (∀ k i, k ≤ m → 0 ≤ hs P t i n (L.take k) ∧ hs P t i n (L.take k) ≤ 4096) := fun k i hk => by
          have h2 := hs_le P t i n h64 (L.take k)
          have h3 : (L.take k).length ≤ 64 := by rw [List.length_take]; omega
          omega
        have HHK : Hid _ := fun (c : Nat → Bool) i => hk_le P t i c n
        have HSN : Hid (∀ k i, k < m → hs P t i n (L.take (k + 1)) = hs P t i n (L.take k) + hk P t i (at' L k) n) := fun k i hk => by rw [← HTS.out k hk, hs_snoc]
        obtain ⟨l2, hl2⟩ : ∃ l2, cts P n K t = l2 := ⟨_, rfl⟩
        rw [hl2] at CN HLN HLC
        have hlen2 := HLN.out
        have CN' : Hid (∀ v : World, Lf v ao n P → Calls Tryd.prog 25 #[.agg #[.slice ao n cap, .int .i64 K], .string t] v fun e w' => (∃ bo d, e = .returned (.slice bo N d) ∧ Is w' bo l2) ∧ Below v.heap.size v w') := fun v h => (CN.out v h).mono (fun e w' ⟨⟨bo, d, h1, h2, _⟩, hb⟩ => ⟨⟨bo, d, by rw [← hlen2]; exact h1, h2⟩, hb⟩)
        clear hr hL hmm hl2 CN HTS hlen2
        go_enter Tryd.func6, Tryd.ntmps6
        go_wp2_with (first | rw [← E1.out])
        clear E1
        refine Calls.mono (Hid.out CF) ?_; rintro e w2 ⟨rfl, b2⟩
        have T2 : Hid (Ly w w2 w.heap.size ao n cap P K) := Ly.grow TT.out b2
        have y2 : w1.heap.size ≤ w2.heap.size := b2.size
        clear b2 TT c0 c1 CF
        obtain ⟨c0, c1⟩ := T2.out.c
        go_wp2_with fail
        refine Calls.mono (CR.out w2 T2.out.l) ?_; rintro e w3 ⟨rfl, b3⟩
        have T3 : Hid (Ly w w3 w.heap.size ao n cap P K) := Ly.grow T2.out b3
        have y3 : w2.heap.size ≤ w3.heap.size := b3.size
        clear b3 T2 c0 c1
        obtain ⟨c0, c1⟩ := T3.out.c
        have hmk := makeI N (by omega) w3
        have hri := ri_made w3 N
        have bel4 : Below w3.heap.size w3 (w3.alloc (.cells (madeCells #[.int .i64 0] N) 3)) := al_below _ _
        have z4 : w3.heap.size < (w3.alloc (.cells (madeCells #[.int .i64 0] N) 3)).heap.size := by rw [al_size]; omega
        generalize Obj.cells (madeCells #[.int .i64 0] N) 3 = ob at *
        obtain ⟨w4, e4⟩ : ∃ w4, w4 = w3.alloc ob := ⟨_, rfl⟩
        rw [← e4] at hri bel4 z4
        have E4 : Hid _ := e4
        have T4 : Hid (Ly w w4 w.heap.size ao n cap P K) := Ly.grow T3.out bel4
        have R4 : Hid (Ri w4 w3.heap.size N (fun _ => 0)) := hri
        have k0 := T4.out.c.1
        have k1 := T4.out.c.2
        have ck : Hid _ := CK.out w4 T4.out.l
        clear e4 hri bel4 CK
        go_wp2_with (first | rw [← E4.out])
        refine Calls.mono (Hid.out ck) ?_; rintro e w5 ⟨⟨bo, d, rfl, lk, hnew⟩, b5⟩
        have T5 : Hid (Ly w w5 w.heap.size ao n cap P K) := Ly.grow T4.out b5
        have R5 : Hid (Ri w5 w3.heap.size N (fun i => hs P t i n (L.take 0))) := (R4.out.grow b5).congr (fun i _ => rfl)
        have K5 : Hid (Lf w5 bo m (at' L)) := lk
        have HN5 : Hid (∀ k, (1 ≤ m ∧ ∃ o, bo = some ⟨k, o, none⟩) → k ≠ w3.heap.size) := fun k ⟨h1, o, e⟩ => by
          obtain ⟨g, e2, hg⟩ := hnew h1
          rw [e2] at e
          cases e
          omega
        have y5 : w3.heap.size < w5.heap.size := Nat.lt_of_lt_of_le z4 b5.size
        have hlow : Hid (∀ k, (1 ≤ n ∧ ∃ o, ao = some ⟨k, o, none⟩) → k < w3.heap.size) := fun k h => by have := HAo.out k h; omega
        have hpg : 0 < w3.heap.size := by have := hpr.out; omega
        have hwg : w.heap.size < w3.heap.size := by omega
        clear ck E4 T3 T4 R4 c0 c1 k0 k1 lk hnew b5 hmk
        generalize w3.heap.size = gh at *
        go_wp2_with fail
        go_loopw [45] (fun vk wr => ∃ k : Nat, k ≤ m ∧ vk = .int .i64 k ∧ Fr (fun j => j ≠ gh) w5 wr ∧ Ri wr gh N (fun i => hs P t i n (L.take k))) (fun vk _ => m - (intOf vk).toNat)
        case atStart => exact ⟨0, Nat.zero_le _, rfl, Fr.refl _ _, R5.out⟩
        case round =>
          obtain ⟨k, hkm, rfl, hF, hR⟩ := hrel
          have HF : Hid (Fr (fun j => j ≠ gh) w5 wr) := hF
          have HR : Hid (Ri wr gh N (fun i => hs P t i n (L.take k))) := hR
          have TR : Hid (Ly w wr w.heap.size ao n cap P K) := ly_low T5.out (hF.below (B := gh) (Nat.le_of_lt y5) (fun j hj => by omega)) (Nat.le_of_lt hwg) hwg hlow.out hpg
          have KR : Lf wr bo m (at' L) := K5.out.kept hF (fun j _ hh => HN5.out j hh)
          have yr : gh < wr.heap.size := hR.lt
          clear hF hR
          by_cases hkl2 : k < m
          · have hkI : (k : Int) < (m : Int) := by omega
            obtain ⟨b, o, rfl, hb, hC⟩ := KR.lies (by omega)
            obtain ⟨d0, d1, d2, d3⟩ := hC.four hkl2
            have HSk : Hid _ := fun i => HSN.out k i hkl2
            have HLk : Hid _ := fun i => HLB.out k i (by omega)
            generalize at' L k = c at *
            obtain ⟨w6, b6⟩ := box wr c
            have E6 : Hid _ := b6.eq
            have TT : Hid (Lyc w w6 w.heap.size wr.heap.size ao n cap P K c) := ⟨TR.out.grow b6.bel, b6.fam⟩
            have BW : Hid (Below wr.heap.size wr w6) := b6.bel
            have cpl : Hid _ := CPl.out c
            have cmk : Hid _ := CMk.out c
            have cco : Hid _ := CC.out c
            clear hC b6 KR
            have c0 := TT.out.o.c.1
            have c1 := TT.out.o.c.2
            obtain ⟨a0, a1, a2, a3⟩ := c4 TT.out.f
            go_wp2_with (first | rw [← E6.out])
            clear E6
            go_region_held3 (fun w' => w'.cell? ⟨w.heap.size, 0, none⟩ = some (.slice ao n cap) ∧ w'.cell? ⟨w.heap.size, 1, none⟩ = some (.int .i64 K) ∧ w'.cell? ⟨wr.heap.size, 0, none⟩ = some (.int .u64 ((wd c 0 : Nat) : Int)) ∧ w'.cell? ⟨wr.heap.size, 1, none⟩ = some (.int .u64 ((wd c 1 : Nat) : Int)) ∧ w'.cell? ⟨wr.heap.size, 2, none⟩ = some (.int .u64 ((wd c 2 : Nat) : Int)) ∧ w'.cell? ⟨wr.heap.size, 3, none⟩ = some (.int .u64 ((wd c 3 : Nat) : Int))) (go_keep)
              (first | (go_at_call 14; (refine Calls.mono (cpl.out _ (Lf.grow TT.out.o.l (Below.drew (Below.refl _ _)))) ?_); rintro e vk ⟨p, rfl, fp, _, lp, bb⟩; have FP : Hid (Fam vk p 0 n (kp P c)) := fp; have LP : Hid (p < vk.heap.size) := lp; have BX : Hid (Below wr.heap.size wr vk) := Below.trans BW.out (Below.mono (show Below w6.heap.size w6 vk from undrew bb) BW.out.size); have TB : Hid (Lyc w vk w.heap.size wr.heap.size ao n cap P K c) := Lyc.grow TT.out (undrew bb); clear bb fp lp TT BW c0 c1 a0 a1 a2 a3; have TT : Hid (Lyc w vk w.heap.size wr.heap.size ao n cap P K c) := TB.out; have BW : Hid (Below wr.heap.size wr vk) := BX.out; clear TB BX; obtain ⟨c0, c1⟩ := TT.out.o.c; obtain ⟨a0, a1, a2, a3⟩ := c4 TT.out.f)
                     | (go_at_call 12; (refine Calls.mono (cmk.out _) ?_); rintro e vk ⟨q, rfl, fq, _, _, bb⟩; have FQ : Hid (Fam vk q 0 t.size (km t c)) := fq; have FP2 : Hid (Fam vk p 0 n (kp P c)) := Fam.below FP.out bb LP.out; have BX : Hid (Below wr.heap.size wr vk) := Below.trans BW.out (Below.mono bb BW.out.size); have TB : Hid (Lyc w vk w.heap.size wr.heap.size ao n cap P K c) := Lyc.grow TT.out bb; clear bb fq TT BW FP c0 c1 a0 a1 a2 a3; have TT : Hid (Lyc w vk w.heap.size wr.heap.size ao n cap P K c) := TB.out; have BW : Hid (Below wr.heap.size wr vk) := BX.out; clear TB BX; obtain ⟨c0, c1⟩ := TT.out.o.c; obtain ⟨a0, a1, a2, a3⟩ := c4 TT.out.f)
                     | (go_at_call 24; (refine Calls.mono (cco.out p q _ TT.out.o.ta FP2.out FQ.out) ?_); rintro e vk ⟨⟨so, sc, rfl, ls⟩, bb⟩; have LS : Hid (Lies vk so NX (fun i => hk P t i c n)) := ls; have BX : Hid (Below wr.heap.size wr vk) := Below.trans BW.out (Below.mono bb BW.out.size); have TB : Hid (Lyc w vk w.heap.size wr.heap.size ao n cap P K c) := Lyc.grow TT.out bb; clear bb ls TT BW FP2 FQ c0 c1 a0 a1 a2 a3; have TT : Hid (Lyc w vk w.heap.size wr.heap.size ao n cap P K c) := TB.out; have BW : Hid (Below wr.heap.size wr vk) := BX.out; clear TB BX; obtain ⟨c0, c1⟩ := TT.out.o.c; obtain ⟨a0, a1, a2, a3⟩ := c4 TT.out.f))
            have TV : Hid (Ly w vk w.heap.size ao n cap P K) := TT.out.o
            have RV : Hid (Ri vk gh N (fun i => hs P t i n (L.take k))) := HR.out.grow BW.out
            have FV : Hid (Fr (fun j => j ≠ gh) w5 vk) := HF.out.trans (Fr.of_below BW.out (fun _ hk _ => hk))
            clear TT BW c0 c1 a0 a1 a2 a3 cpl cmk cco
            rcases hE with ⟨hE0, hNX⟩ | ⟨hE0, hNX⟩
            · subst hNX
              subst hE0
              obtain ⟨b0, o0, rfl, fs⟩ := LS.out (by omega)
              have hne := ri_apart RV.out fs hN1.1
              have hb0 : b0 < vk.heap.size := fs.lt (by omega)
              have FS : Hid (Fam vk b0 o0 NX (fun i => hk P t i c n)) := fs
              clear LS fs
              go_wp2_with fail
              go_loopw [75] (fun vi w8 => ∃ i : Nat, i ≤ NX ∧ vi = .int .i64 i ∧ Fr (fun j => j ≠ gh) vk w8 ∧ Ri w8 gh NX (mix i (fun i => hs P t i n (L.take (k + 1))) (fun i => hs P t i n (L.take k)))) (fun vi _ => NX - (intOf vi).toNat)
              case atStart => exact ⟨0, Nat.zero_le _, rfl, Fr.refl _ _, by rw [mix_zero]; exact RV.out⟩
              case round =>
                obtain ⟨i, hi, rfl, hF8, hR8⟩ := hrel
                by_cases hiN : i < NX
                · have hiI : (i : Int) < (NX : Int) := by omega
                  have xc : wr.cell? ⟨b0, o0 + i, none⟩ = some (.int .u64 (hk P t i c n)) := (hF8.cell (p := ⟨b0, o0 + i, none⟩) hne hb0).trans ((show Fam vk b0 o0 NX (fun i => hk P t i c n) from FS.out) i hiN)
                  have rc := hR8.cell hiN
                  rw [mix_hi (Nat.le_refl i)] at rc
                  have rf := hR8.frozen i
                  obtain ⟨g0, g1⟩ := HLk.out i
                  obtain ⟨g2, g3⟩ := HHK.out c i
                  have HP : Hid (Ri (wr.setCell ⟨gh, i, none⟩ (.int .i64 (hs P t i n (L.take k) + hk P t i c n))) gh NX (mix (i + 1) (fun i => hs P t i n (L.take (k + 1))) (fun i => hs P t i n (L.take k)))) := (hR8.put i _).congr (fun j hj => by
                    by_cases e : j = i
                    · subst e; rw [upd_at, mix_lo (by omega), HSk.out]
                    · rw [upd_off e]
                      by_cases e2 : j < i
                      · rw [mix_lo e2, mix_lo (by omega)]
                      · rw [mix_hi (by omega), mix_hi (by omega)])
                  have HF2 : Hid (Fr (fun j => j ≠ gh) vk (wr.setCell ⟨gh, i, none⟩ (.int .i64 (hs P t i n (L.take k) + hk P t i c n)))) := hF8.setCell (by simp) _
                  clear hF8 hR8
                  generalize hs P t i n (L.take k) = x at *
                  generalize hk P t i c n = y at *
                  go_wp2_with fail
                  go_region
                  all_goals
                    go_wp2_with fail
                    go_roundw
                    case rel => exact ⟨i + 1, by omega, by go_num, HF2.out.drew, HP.out.block rfl⟩
                    case measure => simp [intOf]; omega
                · obtain rfl : i = NX := by omega
                  have HRn : Hid (Ri wr gh i (fun j => hs P t j n (L.take (k + 1)))) := hR8.congr (fun j hj => mix_lo hj)
                  have HFn : Hid (Fr (fun j => j ≠ gh) w5 wr) := FV.out.trans hF8
                  clear hF8 hR8
                  go_wp2_with fail
                  go_roundw
                  case rel => exact ⟨k + 1, by omega, by go_num, HFn.out, HRn.out⟩
                  case measure => simp [intOf]; omega
            · subst hNX
              subst hE0
              have ca : Hid _ := CA.out vk TV.out.ta
              clear LS
              go_wp2_with fail
              refine Calls.mono (Hid.out ca) ?_; rintro e w8 ⟨rfl, b8⟩
              have T8 : Hid (Ly w w8 w.heap.size ao n cap P K) := Ly.grow TV.out b8
              clear b8 ca TV
              go_wp2_with fail
              go_ret
              exact ⟨rfl, T8.out.bel⟩
          · obtain rfl : k = m := by omega
            have R6 : Hid (Ri wr gh N (fun i => ((bnd P n : Nat) : Int) - ((mis P t i n : Nat) : Int))) := HR.out.congr (fun i _ => HTA.out i)
            have k0 := TR.out.c.1
            have k1 := TR.out.c.2
            have cn : Hid _ := CN'.out wr TR.out.l
            clear KR
            go_wp2_with fail
            refine Calls.mono (Hid.out cn) ?_; rintro e w7 ⟨⟨co, cd, rfl, ic⟩, b7⟩
            have T7 : Hid (Ly w w7 w.heap.size ao n cap P K) := Ly.grow TR.out b7
            have R7 : Hid (Ri w7 gh N (fun i => ((bnd P n : Nat) : Int) - ((mis P t i n : Nat) : Int))) := R6.out.grow b7
            have I7 : Hid (Is w7 co l2) := ic
            clear cn ic b7 k0 k1
            go_wp2_with fail
            go_loopw [95] (fun vi w8 => Below w7.heap.size w7 w8 ∧ ∃ i : Nat, i ≤ N ∧ vi = .int .i64 i) (fun vi _ => N - (intOf vi).toNat)
            case atStart => exact ⟨Below.refl _ _, 0, Nat.zero_le _, rfl⟩
            case round =>
              obtain ⟨hb8, i, hi, rfl⟩ := hrel
              have B8 : Hid (Below w7.heap.size w7 wr) := hb8
              have T8 : Hid (Ly w wr w.heap.size ao n cap P K) := Ly.grow T7.out hb8
              have R8 : Hid (Ri wr gh N (fun i => ((bnd P n : Nat) : Int) - ((mis P t i n : Nat) : Int))) := R7.out.grow hb8
              have I8 : Hid (Is wr co l2) := I7.out.grow hb8
              clear hb8
              by_cases hiN : i < N
              · have hiI : (i : Int) < (N : Int) := by omega
                have hil : i < l2.length := by rw [HLN.out]; exact hiN
                obtain ⟨b0, rfl, hlt, hc⟩ := I8.out (by omega)
                have xc := hc i hil
                rw [HLC.out i hil] at xc
                have rc : wr.cell? ⟨gh, i, none⟩ = some (.int .i64 (((bnd P n : Nat) : Int) - ((mis P t i n : Nat) : Int))) := R8.out.cell hiN
                have JC : Hid (∀ v, Below wr.heap.size wr v → v.cell? ⟨gh, i, none⟩ = some (.int .i64 (((bnd P n : Nat) : Int) - ((mis P t i n : Nat) : Int)))) := fun v hv => (R8.out.grow hv).cell hiN
                have hmi := mis_le P t i n
                obtain ⟨k0, k1⟩ := T8.out.c
                generalize mis P t i n = q at *
                generalize bnd P n = bd at *
                have hw3 : IntKind.i64.wrap ((bd : Int) - (q : Int)) = (bd : Int) - (q : Int) := by rw [IntKind.wrap_i64]; omega
                have eN : ((((bd : Int) - (q : Int))) == (((bd : Int) - (q : Int)))) = true := by simp
                clear hc hil
                go_wp2_with fail
                go_region_held3 (fun w' => w'.cell? ⟨w.heap.size, 0, none⟩ = some (.slice ao n cap) ∧ w'.cell? ⟨w.heap.size, 1, none⟩ = some (.int .i64 K) ∧ w'.cell? ⟨gh, i, none⟩ = some (.int .i64 ((bd : Int) - (q : Int)))) (go_keep)
                  (first | (go_at_call 26; (refine Calls.mono (CB.out _ (Lf.grow T8.out.l (Below.drew (Below.refl _ _)))) ?_); rintro e vk ⟨rfl, bb⟩; have B9 : Hid (Below wr.heap.size wr vk) := undrew bb; clear bb k0 k1 rc; have rc := JC.out vk B9.out; obtain ⟨k0, k1⟩ := (Ly.grow T8.out B9.out).c))
                go_wp2_with fail
                go_roundw
                case rel => exact ⟨B8.out.trans (B9.out.mono B8.out.size), i + 1, by omega, by go_num⟩
                case measure => simp [intOf]; omega
              · obtain rfl : i = N := by omega
                have ca : Hid _ := CA.out wr T8.out.ta
                clear R8 I8
                go_wp2_with fail
                refine Calls.mono (Hid.out ca) ?_; rintro e w9 ⟨rfl, b9⟩
                have T9 : Hid (Ly w w9 w.heap.size ao n cap P K) := Ly.grow T8.out b9
                clear b9 ca
                go_wp2_with fail
                go_ret
                exact ⟨rfl, T9.out.bel⟩
  · rw [decide_eq_false hn] at CF
    clear hn b1 hA hp
    go_enter Tryd.func6, Tryd.ntmps6
    go_wp2_with (first | rw [← E1.out])
    refine Calls.mono (Hid.out CF) ?_; rintro e w2 ⟨rfl, b2⟩
    have B2 : Hid (Below w.heap.size w w2) := B1.out.trans (b2.mono B1.out.size)
    have CA2 : Hid _ := CA.out w2 (A1.out.below b2 (tab_lt A1.out))
    clear b2 CA CF c0 c1 E1
    go_wp2_with fail
    refine Calls.mono (Hid.out CA2) ?_; rintro e w3 ⟨rfl, b3⟩
    have B3 : Hid (Below w.heap.size w w3) := B2.out.trans (b3.mono B2.out.size)
    clear b3 CA2
    go_wp2_with fail
    go_ret
    exact ⟨rfl, B3.out⟩

end Go.Proofs.YtppmmobmoanagaaDoor.symbKinds
