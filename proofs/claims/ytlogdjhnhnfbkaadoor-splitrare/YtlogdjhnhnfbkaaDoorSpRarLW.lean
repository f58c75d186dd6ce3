/- The walk of 'beaglelaw12.SplitRare': it answers true; nothing that was there is turned. For the statement's proof. -/
import Derived.OpenShut
import Derived.ProofKit
import Derived.Test.YtlogdjhnhnfbkaaDoorSpC
namespace Go.Proofs.YtlogdjhnhnfbkaaDoor.splitRare
open Go.ChangeShapes Go.WideShapes Go.ChangeAt Go.RowKit Cls
set_option linter.unusedVariables false

theorem lf_rwl {w : World} {ko : Option Addr} {q : Nat} {Q : Nat → Nat → Bool} (h : Lf w ko q Q) : Lf w ko q (at' (rwl Q q)) := ⟨h.small, fun hn => by
  obtain ⟨b, o, e, hlt, hc⟩ := h.lies hn
  exact ⟨b, o, e, hlt, hc.congr (fun t ht => (rwl_at Q q t ht).symm)⟩⟩

/-- A leaf in a box, both tables, and a row of classes. -/
structure Lxk (w wk : World) (g : Nat) (ao : Option Addr) (n cap : Nat) (P : Nat → Nat → Bool) (K : Int) (ko : Option Addr) (q : Nat) (Q : Nat → Nat → Bool) : Prop where
  o : Lx w wk g ao n cap P K
  k : Lf wk ko q Q

theorem Lxk.grow {w wk w' : World} {g : Nat} {ao : Option Addr} {n cap : Nat} {P : Nat → Nat → Bool} {K : Int} {ko : Option Addr} {q : Nat} {Q : Nat → Nat → Bool} (h : Lxk w wk g ao n cap P K ko q Q) (b : Below wk.heap.size wk w') : Lxk w w' g ao n cap P K ko q Q := ⟨h.o.grow b, h.k.grow b⟩

theorem Lxk.drew {w wk : World} {g : Nat} {ao : Option Addr} {n cap : Nat} {P : Nat → Nat → Bool} {K : Int} {ko : Option Addr} {q : Nat} {Q : Nat → Nat → Bool} (h : Lxk w wk g ao n cap P K ko q Q) : Lxk w wk.drew g ao n cap P K ko q Q := h.grow (Below.drew (Below.refl _ _))

theorem all_kinds (P : Nat → Nat → Bool) (n : Nat) (t : ByteArray) (i : Nat) : (rre P t i (kd P n) n : Int) = (bnd P n : Int) - (mis P t i n : Int) := by
  rw [rre_hs P t i (kd P n) n (fun u hu => by rw [kd_once P hu]; cases fr (P u) <;> decide), hs_kinds']

set_option maxRecDepth 4000 in
set_option maxHeartbeats 4000000 in
theorem walk (ao : Option Addr) (n cap : Nat) (P : Nat → Nat → Bool) (K : Int) (t : ByteArray) (ko : Option Addr) (q kc : Nat) (Q : Nat → Nat → Bool) (w : World) (hp : Lp w ao n P) (ht : t.size ≤ maxLen) (hq : Lp w ko q Q) (hA : Tab w) (hB : TabB w) :
    Calls Tryd.prog 4 #[.agg #[.slice ao n cap, .int .i64 K], .string t, .slice ko q kc] w fun e w' => e = .returned (.bool true) ∧ Below w.heap.size w w' := by
  obtain ⟨w1, b1⟩ := lbox w (.slice ao n cap) (.int .i64 K)
  have E1 : Hid _ := b1.eq
  have B1 : Hid (Below w.heap.size w w1) := b1.bel
  have A1 : Hid (Tab w1) := tab_grow hA b1.bel
  have AB1 : Hid (TabB w1) := hB.grow b1.bel
  have c0 := b1.c0
  have c1 := b1.c1
  have CA : Hid _ := fun (v : World) (hu : Tab v) (hv : TabB v) => alive12_any v hu hv
  unfold maxLen at ht
  have hsm := hp.small
  have hsq := hq.small
  have CF : Hid _ := few12_any n cap ao K t (by omega) hsm w1
  by_cases hn : n ≤ 100 ∧ t.size ≤ 300
  · rw [decide_eq_true hn] at CF
    obtain ⟨hn1, hn2⟩ := hn
    have TT : Hid (Lx w w1 w.heap.size ao n cap P K) := ⟨b1.bel, ⟨b1.c0, b1.c1⟩, (hp.grow b1.bel).lf hn1, A1.out, AB1.out⟩
    by_cases hq1 : q ≤ 100
    · have hqI : ¬ (100 : Int) < (q : Int) := by omega
      have KK : Hid (Lf w1 ko q (at' (rwl Q q))) := lf_rwl ((hq.grow b1.bel).lf hq1)
      have hlq := rwl_len Q q
      have CX0 : Hid _ := fun (v : World) (h : Lf v ao n P) (k : Lf v ko (rwl Q q).length (at' (rwl Q q))) => rare12_any P n cap ao K t (rwl Q q) kc ko (by omega) v h k
      have CY0 : Hid _ := fun (v : World) (h : Lf v ao n P) (k : Lf v ko (rwl Q q).length (at' (rwl Q q))) => refRare12_any P n cap ao K t (rwl Q q) kc ko (by omega) v h k
      rw [hlq] at CX0 CY0
      generalize rwl Q q = L at *
      have CK : Hid _ := fun (v : World) (h : Lf v ao n P) => kinds_any P n cap ao K v h
      have CZ0 : Hid _ := fun (v : World) (bo : Option Addr) (d : Nat) (h : Lf v ao n P) (k : Lf v bo (kd P n).length (at' (kd P n))) => rare12_any P n cap ao K t (kd P n) d bo (by omega) v h k
      have CN0 : Hid _ := fun (v : World) (h : Lf v ao n P) => refCounts_any P n cap ao K t (by omega) v h
      have CB : Hid _ := fun (v : World) (h : Lf v ao n P) => bound_any P n cap ao K v h
      have hN := stn_le P n t.size K
      have HLC : Hid (∀ i, (h : i < (cts P n K t).length) → (cts P n K t)[i] = mis P t i n) := fun i h => cts_at P n K t i h
      have HLN0 := cts_len P n K t
      have HLR : Hid (∀ i, (h : i < (rtk P n t (kd P n) (stn P n K t.size)).length) → (((rtk P n t (kd P n) (stn P n K t.size))[i] : Nat) : Int) = (bnd P n : Int) - (mis P t i n : Int)) := fun i h => by rw [rtk_at]; exact all_kinds P n t i
      have HXA : Hid (∀ i, (h : i < (rtk P n t L (stn P n K t.size)).length) → (rre P t i L n : Int) = (((rtk P n t L (stn P n K t.size))[i] : Nat) : Int)) := fun i h => by rw [rtk_at]
      have HZA : Hid (∀ i, (h : i < (rtk P n t (kd P n) (stn P n K t.size)).length) → (rre P t i (kd P n) n : Int) = (((rtk P n t (kd P n) (stn P n K t.size))[i] : Nat) : Int)) := fun i h => by rw [rtk_at]
      have hx1 := rtk_len P n t L (stn P n K t.size)
      have hx2 := rtk_len P n t (kd P n) (stn P n K t.size)
      have hbn := bnd_le P n
      obtain ⟨N, hNe⟩ : ∃ N, stn P n K t.size = N := ⟨_, rfl⟩
      rw [hNe] at CX0 CY0 CZ0 hN HLN0 HLR HXA HZA hx1 hx2
      obtain ⟨R1, hR1⟩ : ∃ R1, rtk P n t L N = R1 := ⟨_, rfl⟩
      obtain ⟨R2, hR2⟩ : ∃ R2, rtk P n t (kd P n) N = R2 := ⟨_, rfl⟩
      obtain ⟨C, hC⟩ : ∃ C, cts P n K t = C := ⟨_, rfl⟩
      rw [hR1] at CY0 HXA hx1
      rw [hR2] at HLR HZA hx2
      rw [hC] at CN0 HLC HLN0
      have HC1 : Hid (C.length = N) := HLN0
      have HR1 : Hid (R1.length = N) := hx1
      have HR2 : Hid (R2.length = N) := hx2
      have CX : Hid (∀ (v : World), Lf v ao n P → Lf v ko q (at' L) → Calls Tryd.prog 15 #[.agg #[.slice ao n cap, .int .i64 K], .string t, .slice ko q kc] v fun e w' => (∃ co cc, e = .returned (.slice co N cc) ∧ Is w' co R1) ∧ Below v.heap.size v w') := fun v h k => (CX0.out v h k).mono (by
        rintro e w' ⟨⟨co, cc, he, hc⟩, hb⟩
        rw [← HR1.out] at hc
        exact ⟨⟨co, cc, he, hc.is (fun t ht => HXA.out t ht)⟩, hb⟩)
      have CY : Hid (∀ (v : World), Lf v ao n P → Lf v ko q (at' L) → Calls Tryd.prog 16 #[.agg #[.slice ao n cap, .int .i64 K], .string t, .slice ko q kc] v fun e w' => (∃ co cc, e = .returned (.slice co N cc) ∧ Is w' co R1) ∧ Below v.heap.size v w') := fun v h k => (CY0.out v h k).mono (by
        rintro e w' ⟨⟨co, cc, he, hi, _⟩, hb⟩
        exact ⟨⟨co, cc, by rw [← HR1.out]; exact he, hi⟩, hb⟩)
      have CZ : Hid (∀ (v : World) (bo : Option Addr) (d : Nat), Lf v ao n P → Lf v bo (kd P n).length (at' (kd P n)) → Calls Tryd.prog 15 #[.agg #[.slice ao n cap, .int .i64 K], .string t, .slice bo (kd P n).length d] v fun e w' => (∃ co cc, e = .returned (.slice co N cc) ∧ Is w' co R2) ∧ Below v.heap.size v w') := fun v bo d h k => (CZ0.out v bo d h k).mono (by
        rintro e w' ⟨⟨co, cc, he, hc⟩, hb⟩
        rw [← HR2.out] at hc
        exact ⟨⟨co, cc, he, hc.is (fun t ht => HZA.out t ht)⟩, hb⟩)
      have CN : Hid (∀ (v : World), Lf v ao n P → Calls Tryd.prog 17 #[.agg #[.slice ao n cap, .int .i64 K], .string t] v fun e w' => (∃ bo d, e = .returned (.slice bo N d) ∧ Is w' bo C) ∧ Below v.heap.size v w') := fun v h => (CN0.out v h).mono (by
        rintro e w' ⟨⟨bo, d, he, hi, _⟩, hb⟩
        exact ⟨⟨bo, d, by rw [← HC1.out]; exact he, hi⟩, hb⟩)
      have CP : Hid (∀ (v : World) (xo yo : Option Addr) (d e : Nat), Is v xo R1 → Is v yo R1 → Calls Tryd.prog 14 #[.slice xo N d, .slice yo N e] v fun e w' => e = .returned (.bool true) ∧ Below v.heap.size v w') := fun v xo yo d e h1 h2 => by
        have hl := HR1.out
        have h := places_any R1 R1 d e xo yo v h1 h2 (by omega) (by omega)
        rw [eqi_same, hl] at h
        exact h
      have eN : ((N : Int) == (N : Int)) = true := by simp
      have hmN : N ≤ 301 := by omega
      have CK' : Hid (∃ m, m ≤ n ∧ (∀ (v : World), Lf v ao n P → Calls Tryd.prog 13 #[.agg #[.slice ao n cap, .int .i64 K]] v fun e w' => (∃ bo d, e = .returned (.slice bo m d) ∧ Lf w' bo m (at' (kd P n))) ∧ Below v.heap.size v w') ∧ (∀ (v : World) (bo : Option Addr) (d : Nat), Lf v ao n P → Lf v bo m (at' (kd P n)) → Calls Tryd.prog 15 #[.agg #[.slice ao n cap, .int .i64 K], .string t, .slice bo m d] v fun e w' => (∃ co cc, e = .returned (.slice co N cc) ∧ Is w' co R2) ∧ Below v.heap.size v w')) := ⟨_, kd_len P n, CK.out, CZ.out⟩
      obtain ⟨m, hm, ck, cz⟩ := CK'.out
      have CK2 : Hid _ := ck
      have CZ2 : Hid _ := cz
      have TK : Hid (Lxk w w1 w.heap.size ao n cap P K ko q (at' L)) := ⟨TT.out, KK.out⟩
      clear b1 hA hB hp hq A1 AB1 B1 hNe hR1 hR2 hC CX0 CY0 CZ0 CN0 hN HLN0 hx1 hx2 HXA HZA hlq CK CZ CK' ck cz TT KK
      generalize at' L = Q' at *
      generalize at' (kd P n) = KD at *
      go_enter Tryd.func4, Tryd.ntmps4
      go_wp2_with (first | rw [← E1.out])
      clear E1
      refine Calls.mono (Hid.out CF) ?_; rintro e w2 ⟨rfl, b2⟩
      have TT : Hid (Lxk w w2 w.heap.size ao n cap P K ko q Q') := TK.out.grow b2
      clear b2 TK c0 c1 CF
      obtain ⟨c0, c1⟩ := TT.out.o.c
      have TD : Hid (Lxk w w2.drew w.heap.size ao n cap P K ko q Q') := TT.out.drew
      go_wp2_with fail
      go_region_held3 (fun w' => w'.cell? ⟨w.heap.size, 0, none⟩ = some (.slice ao n cap) ∧ w'.cell? ⟨w.heap.size, 1, none⟩ = some (.int .i64 K)) (go_keep)
        (first
          | (go_at_call 15; (with_reducible refine Calls.mono (CX.out _ TD.out.o.l TD.out.k) ?_); rintro e vk ⟨⟨xo, xc, rfl, hk⟩, bb⟩; have XX : Hid (Is vk xo R1) := hk; have TB : Hid (Lxk w vk w.heap.size ao n cap P K ko q Q') := TD.out.grow bb; clear hk bb TT TD c0 c1; have TT : Hid (Lxk w vk w.heap.size ao n cap P K ko q Q') := TB.out; clear TB; obtain ⟨c0, c1⟩ := TT.out.o.c)
          | (go_at_call 16; (with_reducible refine Calls.mono (CY.out _ TT.out.o.l TT.out.k) ?_); rintro e vk ⟨⟨yo, yc, rfl, hk⟩, bb⟩; have YY : Hid (Is vk yo R1) := hk; have XY : Hid (Is vk xo R1) := Is.grow XX.out bb; have TB : Hid (Lxk w vk w.heap.size ao n cap P K ko q Q') := TT.out.grow bb; clear hk bb TT XX c0 c1; have TT : Hid (Lxk w vk w.heap.size ao n cap P K ko q Q') := TB.out; clear TB; obtain ⟨c0, c1⟩ := TT.out.o.c)
          | (go_at_call 14; (with_reducible refine Calls.mono (CP.out _ _ _ _ _ XY.out YY.out) ?_); rintro e vk ⟨rfl, bb⟩; have TB : Hid (Lxk w vk w.heap.size ao n cap P K ko q Q') := TT.out.grow bb; clear bb TT XY YY c0 c1; have TT : Hid (Lxk w vk w.heap.size ao n cap P K ko q Q') := TB.out; clear TB; obtain ⟨c0, c1⟩ := TT.out.o.c))
      clear CX CY CP
      have TX : Hid (Lx w vk w.heap.size ao n cap P K) := TT.out.o
      clear TT
      have TT : Hid (Lx w vk w.heap.size ao n cap P K) := TX.out
      clear TX
      have TD : Hid (Lx w vk.drew w.heap.size ao n cap P K) := TT.out.drewN 1
      go_wp2_with fail
      go_region_held3 (fun w' => w'.cell? ⟨w.heap.size, 0, none⟩ = some (.slice ao n cap) ∧ w'.cell? ⟨w.heap.size, 1, none⟩ = some (.int .i64 K)) (go_keep)
        (first
          | (go_at_call 13; (with_reducible refine Calls.mono (CK2.out _ TD.out.l) ?_); rintro e v5 ⟨⟨bo, bd, rfl, hk⟩, bb⟩; have KB : Hid (Lf v5 bo m KD) := hk; have TB : Hid (Lx w v5 w.heap.size ao n cap P K) := TD.out.grow bb; clear hk bb TT TD c0 c1; have TT : Hid (Lx w v5 w.heap.size ao n cap P K) := TB.out; clear TB; obtain ⟨c0, c1⟩ := TT.out.c)
          | (go_at_call 15; (with_reducible refine Calls.mono (CZ2.out _ _ _ TT.out.l KB.out) ?_); rintro e v6 ⟨⟨zo, zc, rfl, hk⟩, bb⟩; have ZZ : Hid (Is v6 zo R2) := hk; have TB : Hid (Lx w v6 w.heap.size ao n cap P K) := TT.out.grow bb; clear hk bb TT KB c0 c1; have TT : Hid (Lx w v6 w.heap.size ao n cap P K) := TB.out; clear TB; obtain ⟨c0, c1⟩ := TT.out.c))
      clear CK2 CZ2
      go_wp2_with fail
      refine Calls.mono (CN.out v6 TT.out.l) ?_; rintro e w7 ⟨⟨co, cd, rfl, ic⟩, b7⟩
      have T7 : Hid (Lx w w7 w.heap.size ao n cap P K) := TT.out.grow b7
      have Z7 : Hid (Is w7 zo R2) := ZZ.out.grow b7
      have I7 : Hid (Is w7 co C) := ic
      clear b7 TT ZZ ic CN c0 c1
      go_wp2_with fail
      go_loopw [45] (fun vi w8 => Below w7.heap.size w7 w8 ∧ ∃ i : Nat, i ≤ N ∧ vi = .int .i64 i) (fun vi _ => N - (intOf vi).toNat)
      case atStart => exact ⟨Below.refl _ _, 0, Nat.zero_le _, rfl⟩
      case round =>
        obtain ⟨hb8, i, hi, rfl⟩ := hrel
        have B8 : Hid (Below w7.heap.size w7 wr) := hb8
        have T8 : Hid (Lx w wr w.heap.size ao n cap P K) := T7.out.grow hb8
        have Z8 : Hid (Is wr zo R2) := Z7.out.grow hb8
        have I8 : Hid (Is wr co C) := I7.out.grow hb8
        clear hb8
        by_cases hiN : i < N
        · have hiI : (i : Int) < (N : Int) := by omega
          have hil : i < C.length := by rw [HC1.out]; exact hiN
          have hil2 : i < R2.length := by rw [HR2.out]; exact hiN
          obtain ⟨b0, rfl, hlt, hc⟩ := I8.out (by omega)
          obtain ⟨g0, rfl, hlt2, hz⟩ := Z8.out (by omega)
          have xc := hc i hil
          have zc' := hz i hil2
          rw [HLC.out i hil] at xc
          rw [HLR.out i hil2] at zc'
          have JC : Hid (∀ v, Below wr.heap.size wr v → v.cell? ⟨b0, i, none⟩ = some (.int .i64 ((mis P t i n : Nat) : Int))) := fun v hv => (hv.cell (p := ⟨b0, i, none⟩) hlt).trans xc
          have JZ : Hid (∀ v, Below wr.heap.size wr v → v.cell? ⟨g0, i, none⟩ = some (.int .i64 ((bnd P n : Int) - (mis P t i n : Int)))) := fun v hv => (hv.cell (p := ⟨g0, i, none⟩) hlt2).trans zc'
          have hmi := mis_le P t i n
          obtain ⟨k0, k1⟩ := T8.out.c
          generalize mis P t i n = x at *
          generalize bnd P n = bd at *
          have hw3 : IntKind.i64.wrap ((bd : Int) - (x : Int)) = (bd : Int) - (x : Int) := by rw [IntKind.wrap_i64]; omega
          have eX : ((((bd : Int) - (x : Int))) == (((bd : Int) - (x : Int)))) = true := by simp
          clear hc hil hz hil2
          go_wp2_with fail
          go_region_held3 (fun w' => w'.cell? ⟨w.heap.size, 0, none⟩ = some (.slice ao n cap) ∧ w'.cell? ⟨w.heap.size, 1, none⟩ = some (.int .i64 K) ∧ w'.cell? ⟨b0, i, none⟩ = some (.int .i64 ((x : Nat) : Int)) ∧ w'.cell? ⟨g0, i, none⟩ = some (.int .i64 ((bd : Int) - (x : Int)))) (go_keep)
            (first | (go_at_call 18; (refine Calls.mono (CB.out _ (Lf.grow T8.out.l (Below.drew (Below.refl _ _)))) ?_); rintro e vk9 ⟨rfl, bb⟩; have B9 : Hid (Below wr.heap.size wr vk9) := undrew bb; clear bb k0 k1 xc zc'; have xc := JC.out vk9 B9.out; have zc' := JZ.out vk9 B9.out; obtain ⟨k0, k1⟩ := (T8.out.grow B9.out).c))
          all_goals
            go_wp2_with fail
            go_roundw
            case rel => exact ⟨B8.out.trans (B9.out.mono B8.out.size), i + 1, by omega, by go_num⟩
            case measure => simp [intOf]; omega
        · obtain rfl : i = N := by omega
          have ca : Hid _ := CA.out wr T8.out.ta T8.out.tb
          clear Z8 I8
          go_wp2_with fail
          refine Calls.mono (Hid.out ca) ?_; rintro e w9 ⟨rfl, b9⟩
          have T9 : Hid (Lx w w9 w.heap.size ao n cap P K) := T8.out.grow b9
          clear b9 ca
          go_wp2_with fail
          go_ret
          exact ⟨rfl, T9.out.bel⟩
    · have hqI : (100 : Int) < (q : Int) := by omega
      clear b1 hA hB hp hq A1 AB1 B1
      go_enter Tryd.func4, Tryd.ntmps4
      go_wp2_with (first | rw [← E1.out])
      clear E1
      refine Calls.mono (Hid.out CF) ?_; rintro e w2 ⟨rfl, b2⟩
      have T2 : Hid (Lx w w2 w.heap.size ao n cap P K) := TT.out.grow b2
      clear b2 TT c0 c1 CF
      go_wp2_with fail
      refine Calls.mono (CA.out w2 T2.out.ta T2.out.tb) ?_; rintro e w3 ⟨rfl, b3⟩
      have T3 : Hid (Lx w w3 w.heap.size ao n cap P K) := T2.out.grow b3
      clear b3 T2 CA
      go_wp2_with fail
      go_ret
      exact ⟨rfl, T3.out.bel⟩
  · rw [decide_eq_false hn] at CF
    clear hn b1 hA hB hp hq
    go_enter Tryd.func4, Tryd.ntmps4
    go_wp2_with (first | rw [← E1.out])
    refine Calls.mono (Hid.out CF) ?_; rintro e w2 ⟨rfl, b2⟩
    have B2 : Hid (Below w.heap.size w w2) := B1.out.trans (b2.mono B1.out.size)
    have CA2 : Hid _ := CA.out w2 (tab_grow A1.out b2) (AB1.out.grow b2)
    clear b2 CA CF c0 c1 E1
    go_wp2_with fail
    refine Calls.mono (Hid.out CA2) ?_; rintro e w3 ⟨rfl, b3⟩
    have B3 : Hid (Below w.heap.size w w3) := B2.out.trans (b3.mono B2.out.size)
    clear b3 CA2
    go_wp2_with fail
    go_ret
    exact ⟨rfl, B3.out⟩

end Go.Proofs.YtlogdjhnhnfbkaaDoor.splitRare
