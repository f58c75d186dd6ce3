/- The walk of 'beaglelaw10.WildZero': it answers true; nothing that was there is turned. For the statement's proof. -/
import Derived.OpenShut
import Derived.ProofKit
import Derived.Test.YtbojmkkpgglhhaaDoorWdLaw
namespace Go.Proofs.YtbojmkkpgglhhaaDoor.wildZero
open Go.ChangeShapes Go.WideShapes Go.ChangeAt Go.RowKit Cls
set_option linter.unusedVariables false

set_option maxRecDepth 4000 in
set_option maxHeartbeats 4000000 in
theorem walk (ao : Option Addr) (n cap : Nat) (P : Nat → Nat → Bool) (K : Int) (t : ByteArray) (z : Int) (w : World) (hp : Lp w ao n P) (ht : t.size ≤ maxLen) (hz : (Lit.int .i64 z).wf = true) (hA : Tab w) (hT : TabB w) :
    Calls Tryd.prog 6 #[.agg #[.slice ao n cap, .int .i64 K], .string t, .int .i64 z] w fun e w' => e = .returned (.bool true) ∧ Below w.heap.size w w' := by
  obtain ⟨w1, b1⟩ := lbox w (.slice ao n cap) (.int .i64 K)
  have E1 : Hid _ := b1.eq
  have B1 : Hid (Below w.heap.size w w1) := b1.bel
  have A1 : Hid (Tab w1) := tab_grow hA b1.bel
  have T1 : Hid (TabB w1) := hT.grow b1.bel
  have c0 := b1.c0
  have c1 := b1.c1
  have CA : Hid _ := fun (v : World) (hu : Tab v) (hv : TabB v) => alive10_any v hu hv
  unfold maxLen at ht
  have hsm := hp.small
  have CF : Hid _ := few10_any n cap ao K t (by omega) hsm w1
  by_cases hn : n ≤ 100 ∧ t.size ≤ 300
  · rw [decide_eq_true hn] at CF
    obtain ⟨hn1, hn2⟩ := hn
    have TT : Hid (Lx w w1 w.heap.size ao n cap P K) := ⟨b1.bel, ⟨b1.c0, b1.c1⟩, (hp.grow b1.bel).lf hn1, A1.out, T1.out⟩
    have hN := wn_le P n K t.size z
    have CS : Hid _ := fun (v : World) (h1 : Tab v) (h2 : TabB v) (h3 : Lf v ao n P) => wsums_any P n cap ao K z t (by omega) v h1 h2 h3
    have CR : Hid _ := fun (v : World) (h3 : Lf v ao n P) => refCounts_any P n cap ao K t (by omega) v h3
    have HZ : Hid _ := fun h => wn_stn (P := P) (n := n) (K := K) (m := t.size) (z := z) h
    have HC0 : Hid _ := fun h => wn_no (P := P) (n := n) (K := K) (m := t.size) (z := z) h
    have HI : Hid _ := fun h i => ws_iff (P := P) (n := n) (K := K) (z := z) (s := t) (m := t.size) h i
    obtain ⟨N, hN'⟩ : ∃ N, wn P n K t.size z = N := ⟨_, rfl⟩
    obtain ⟨F, hF⟩ : ∃ F : Nat → Int, (fun i => ws P t i n) = F := ⟨_, rfl⟩
    have HF : Hid (∀ i, F i = ws P t i n) := fun i => by rw [← hF]
    rw [hN'] at CS hN HZ HC0
    rw [hF] at CS
    generalize wq P n K t.size z = Q at *
    generalize we P n K t.size z = C at *
    clear b1 hT hA hp T1 A1 B1 hF hN' hz
    go_enter Tryd.func6, Tryd.ntmps6
    go_wp2_with (first | rw [← E1.out])
    clear E1
    refine Calls.mono (Hid.out CF) ?_; rintro e w2 ⟨rfl, b2⟩
    have T2 : Hid (Lx w w2 w.heap.size ao n cap P K) := Lx.grow TT.out b2
    clear b2 TT c0 c1 CF
    obtain ⟨c0, c1⟩ := T2.out.c
    go_wp2_with fail
    refine Calls.mono (CS.out w2 T2.out.ta T2.out.tb T2.out.l) ?_; rintro e w3 ⟨xo, xc, rfl, lx, b3⟩
    have T3 : Hid (Lx w w3 w.heap.size ao n cap P K) := Lx.grow T2.out b3
    have LX3 : Hid (Lies w3 xo N F) := lx
    clear b3 T2 c0 c1 lx CS
    by_cases hC : C = 0
    · have hst := HZ.out hC
      have hiff : Hid (∀ i, F i = 0 ↔ mis P t i n = 0) := fun i => by rw [HF.out i]; exact HI.out hC i
      have CR' : Hid (∀ (v : World), Lf v ao n P → Calls Tryd.prog 22 #[.agg #[.slice ao n cap, .int .i64 K], .string t] v fun e w' => (∃ bo d, e = .returned (.slice bo N d) ∧ Is w' bo (cts P n K t)) ∧ Below v.heap.size v w') := fun v hv => (CR.out v hv).mono (fun e w' h => by
        obtain ⟨⟨bo, d, he, hi, _⟩, hb⟩ := h
        rw [cts_len, ← hst] at he
        exact ⟨⟨bo, d, he, hi⟩, hb⟩)
      subst hC
      obtain ⟨c0, c1⟩ := T3.out.c
      clear CR HZ HC0 HI HF
      go_wp2_with fail
      refine Calls.mono (CR'.out w3 T3.out.l) ?_; rintro e w4 ⟨⟨yo, yc, rfl, hy⟩, b4⟩
      have T4 : Hid (Lx w w4 w.heap.size ao n cap P K) := Lx.grow T3.out b4
      have LX4 : Hid (Lies w4 xo N F) := LX3.out.below b4 (Nat.le_refl _)
      have Y4 : Hid (Is w4 yo (cts P n K t)) := hy
      have eN : ((N : Int) == (N : Int)) = true := by simp
      clear b4 T3 c0 c1 hy CR' LX3
      go_wp2_with fail
      go_loopw [43] (fun vk wr => (∃ q, wr = w4.drewN q) ∧ ∃ k : Nat, k ≤ N ∧ vk = .int .i64 k) (fun vk _ => N - (intOf vk).toNat)
      case atStart => exact ⟨⟨0, rfl⟩, 0, Nat.zero_le _, rfl⟩
      case round =>
        obtain ⟨⟨q, hw⟩, k, hk, rfl⟩ := hrel
        have HW : Hid (wr = w4.drewN q) := hw
        by_cases hkn : k < N
        · obtain ⟨b, o, rfl, hf⟩ := LX4.out (by omega)
          have hl : k < (cts P n K t).length := by rw [cts_len, ← hst]; exact hkn
          obtain ⟨bb, rfl, _, hg⟩ := Y4.out (by omega)
          have k1 : wr.cell? ⟨b, o + k, none⟩ = some (.int .u64 (F k)) := by rw [hw]; exact hf k hkn
          have k2 : wr.cell? ⟨bb, k, none⟩ = some (.int .i64 ((mis P t k n : Nat) : Int)) := by
            have h := hg k hl
            rw [cts_at] at h
            rw [hw]
            exact h
          have hkI : (k : Int) < (N : Int) := by omega
          have hk0 : (0 : Int) ≤ (k : Int) := by omega
          have hi := hiff.out k
          clear hf hg hw hl
          by_cases h0 : mis P t k n = 0
          · have hF0 : F k = 0 := hi.2 h0
            rw [hF0] at k1
            rw [h0] at k2
            clear hi h0 hF0
            go_wp2_with fail
            go_quiet (fail)
            go_wp2_with fail
            go_roundw
            case rel => exact ⟨⟨q + nq, by rw [HW.out]; exact World.drewN_drewN _ _ _⟩, k + 1, by omega, by go_num⟩
            case measure => simp [intOf]; omega
          · have hF0 : ¬ F k = 0 := fun h => h0 (hi.1 h)
            have g1 : (F k == 0) = false := by simpa using hF0
            have g2 : (((mis P t k n : Nat) : Int) == 0) = false := by simp; omega
            generalize F k = f at *
            generalize ((mis P t k n : Nat) : Int) = y at *
            clear hi h0
            go_wp2_with fail
            go_quiet (fail)
            go_wp2_with fail
            go_roundw
            case rel => exact ⟨⟨q + nq, by rw [HW.out]; exact World.drewN_drewN _ _ _⟩, k + 1, by omega, by go_num⟩
            case measure => simp [intOf]; omega
        · have T5 : Hid (Lx w wr w.heap.size ao n cap P K) := by show Lx _ _ _ _ _ _ _ _; rw [hw]; exact T4.out.drewN q
          have CA5 : Hid _ := CA.out wr T5.out.ta T5.out.tb
          clear hw CA LX4 Y4 T4
          go_wp2_with fail
          refine Calls.mono (Hid.out CA5) ?_; rintro e w6 ⟨rfl, b6⟩
          have T6 : Hid (Lx w w6 w.heap.size ao n cap P K) := Lx.grow T5.out b6
          clear b6 T5 CA5
          go_wp2_with fail
          go_ret
          exact ⟨rfl, T6.out.bel⟩
    · have hN0 := HC0.out hC
      have hCB : (C == 0) = false := by simpa using hC
      subst hN0
      clear CR HZ HC0 HI HF
      go_wp2_with fail
      refine Calls.mono (CA.out w3 T3.out.ta T3.out.tb) ?_; rintro e w4 ⟨rfl, b4⟩
      have T4 : Hid (Lx w w4 w.heap.size ao n cap P K) := Lx.grow T3.out b4
      clear b4 T3 CA
      go_wp2_with fail
      go_ret
      exact ⟨rfl, T4.out.bel⟩
  · rw [decide_eq_false hn] at CF
    clear hn b1 hT hA hp
    go_enter Tryd.func6, Tryd.ntmps6
    go_wp2_with (first | rw [← E1.out])
    refine Calls.mono (Hid.out CF) ?_; rintro e w2 ⟨rfl, b2⟩
    have B2 : Hid (Below w.heap.size w w2) := B1.out.trans (b2.mono B1.out.size)
    have CA2 : Hid _ := CA.out w2 (tab_grow A1.out b2) (T1.out.grow b2)
    clear b2 CA CF c0 c1 E1
    go_wp2_with fail
    refine Calls.mono (Hid.out CA2) ?_; rintro e w3 ⟨rfl, b3⟩
    have B3 : Hid (Below w.heap.size w w3) := B2.out.trans (b3.mono B2.out.size)
    clear b3 CA2
    go_wp2_with fail
    go_ret
    exact ⟨rfl, B3.out⟩

end Go.Proofs.YtbojmkkpgglhhaaDoor.wildZero
