/- The walk of 'beaglelaw08.NaiveMore': it answers true; nothing that was there is turned. For the statement's proof. -/
import Derived.OpenShut
import Derived.ProofKit
import Derived.Test.YtpogipingefkaaaNvLaw
import Derived.Laws.Concat
namespace Go.Proofs.Ytpogipingefkaaa.naiveMore
open Go.ChangeShapes Go.WideShapes Go.ChangeAt Go.RowKit Cls
set_option linter.unusedVariables false

theorem is_part {w : World} {ao : Option Addr} {L L' : List Nat} (h : Is w ao L') (hp : L <+: L') : Is w ao L := fun hn => by
  obtain ⟨b, e, hlt, hc⟩ := h (Nat.le_trans hn hp.length_le)
  refine ⟨b, e, hlt, fun t ht => ?_⟩
  rw [hc t (Nat.lt_of_lt_of_le ht hp.length_le), hp.getElem ht]

theorem cts_part (P : Nat → Nat → Bool) (n : Nat) (K : Int) (s u : ByteArray) : cts P n K s <+: cts P n K (s ++ u) := by
  obtain ⟨h1, h2⟩ := cts_more P n K s u
  have e : cts P n K s = (List.range (stn P n K s.size)).map fun i => mis P (s ++ u) i n := List.map_congr_left (fun i hi => (h2 i (by simpa using hi)).symm)
  rw [e]
  unfold cts
  refine List.IsPrefix.map _ ?_
  refine ⟨List.range' (stn P n K s.size) (stn P n K (s ++ u).size - stn P n K s.size), ?_⟩
  rw [List.range_eq_range', List.range_eq_range']
  have := List.range'_append_1 (s := 0) (m := stn P n K s.size) (n := stn P n K (s ++ u).size - stn P n K s.size)
  rw [Nat.zero_add] at this
  rw [this]
  congr 1
  omega

set_option maxHeartbeats 4000000 in
theorem walk (ao : Option Addr) (n cap : Nat) (P : Nat → Nat → Bool) (K : Int) (s u : ByteArray) (w : World) (hp : Lp w ao n P) (hs : s.size ≤ maxLen) (hu : u.size ≤ maxLen) :
    Calls Try.prog 7 #[.agg #[.slice ao n cap, .int .i64 K], .string s, .string u] w fun e w' => e = .returned (.bool true) ∧ Below w.heap.size w w' := by
  obtain ⟨w1, b1⟩ := lbox w (.slice ao n cap) (.int .i64 K)
  have E1 : Hid _ := b1.eq
  have B1 : Hid (Below w.heap.size w w1) := b1.bel
  have c0 := b1.c0
  have c1 := b1.c1
  have CA : Hid _ := fun (v : World) => alive08_any v
  unfold maxLen at hs hu
  have CF : Hid _ := few08_any n cap ao K s (by omega) hp.small w1
  by_cases hn : n ≤ 100 ∧ s.size ≤ 300
  · have TT : Hid (Lv w w1 w.heap.size ao n cap P K) := ⟨b1.bel, ⟨b1.c0, b1.c1⟩, (hp.grow b1.bel).lf hn.1⟩
    rw [decide_eq_true hn] at CF
    obtain ⟨hn1, hn2⟩ := hn
    by_cases hm : u.size ≤ 100
    · have hmI : (u.size : Int) ≤ 100 := by omega
      obtain ⟨t, ht⟩ : ∃ t, s ++ u = t := ⟨_, rfl⟩
      have htl : t.size = s.size + u.size := by rw [← ht, ByteArray.size_append]
      have hadd : ∀ w, (Op.stringOp .add s u).run Try.prog w = .ok (.string t) w := fun w => by rw [run_string_add_sum (P := Try.prog) (w := w) s u (by omega), ht]
      have hsum : s.size + u.size ≤ 9223372036854775807 := by omega
      have hpt := cts_part P n K s u
      rw [ht] at hpt
      have C1 : Hid _ := fun (v : World) (hv : Lf v ao n P) => counts_any P n cap ao K s (by omega) v hv
      have C2 : Hid _ := fun (v : World) (hv : Lf v ao n P) => counts_any P n cap ao K t (by omega) v hv
      obtain ⟨L, hL⟩ : ∃ L, cts P n K s = L := ⟨_, rfl⟩
      obtain ⟨M, hM⟩ : ∃ M, cts P n K t = M := ⟨_, rfl⟩
      have hLl : L.length ≤ 401 := by rw [← hL, cts_len]; have := stn_le P n s.size K; omega
      have hMl : M.length ≤ 401 := by rw [← hM, cts_len]; have := stn_le P n t.size K; omega
      rw [hL, hM] at hpt
      rw [hL] at C1
      rw [hM] at C2
      have hLM := hpt.length_le
      obtain ⟨a, ha⟩ : ∃ a, L.length = a := ⟨_, rfl⟩
      obtain ⟨b, hb⟩ : ∃ b, M.length = b := ⟨_, rfl⟩
      rw [ha] at hLl hLM
      rw [hb] at hMl hLM
      have C1' : Hid (∀ (v : World), Lf v ao n P → Calls Try.prog 14 #[.agg #[.slice ao n cap, .int .i64 K], .string s] v fun e w' => (∃ bo d, e = .returned (.slice bo a d) ∧ Is w' bo L) ∧ Below v.heap.size v w') := fun v hv => (C1.out v hv).mono (fun e w' ⟨⟨bo, d, he, hi, _⟩, hb⟩ => ⟨⟨bo, d, by rw [he, ha], hi⟩, hb⟩)
      have C2' : Hid (∀ (v : World), Lf v ao n P → Calls Try.prog 14 #[.agg #[.slice ao n cap, .int .i64 K], .string t] v fun e w' => (∃ bo d, e = .returned (.slice bo b d) ∧ Is w' bo M ∧ b ≤ d) ∧ Below v.heap.size v w') := fun v hv => (C2.out v hv).mono (fun e w' ⟨⟨bo, d, he, hi, _, hd⟩, hb'⟩ => ⟨⟨bo, d, by rw [he, hb], hi, by rw [← hb]; exact hd⟩, hb'⟩)
      have CP : Hid _ := fun (v : World) (xo yo : Option Addr) (d e : Nat) (h1 : Is v xo L) (h2 : Is v yo L) => places_same L a ha (by omega) xo yo d e v h1 h2
      have HPT : Hid (L <+: M) := hpt
      have habI : (a : Int) ≤ (b : Int) := by omega
      clear b1 hp hL hM ha hb C1 C2 B1 hpt
      go_enter Try.func7, Try.ntmps7
      go_wp2_with (first | rw [← E1.out])
      clear E1
      refine Calls.mono (Hid.out CF) ?_; rintro e w2 ⟨rfl, b2⟩
      have TB : Hid (Lv w w2 w.heap.size ao n cap P K) := Lv.grow TT.out b2
      clear b2 TT CF c0 c1
      have TT : Hid (Lv w w2 w.heap.size ao n cap P K) := TB.out
      clear TB
      obtain ⟨c0, c1⟩ := TT.out.c
      have LD : Hid (Lf w2.drew ao n P) := TT.out.l.drewN 1
      go_wp2_with fail
      go_region_held3 (fun w' => w'.cell? ⟨w.heap.size, 0, none⟩ = some (.slice ao n cap) ∧ w'.cell? ⟨w.heap.size, 1, none⟩ = some (.int .i64 K)) (go_keep)
        (first
          | (go_at_call 14; (with_reducible refine Calls.mono (C1'.out _ LD.out) ?_); rintro e vk ⟨⟨xo, xc, rfl, hk⟩, bb⟩; have XX : Hid (Is vk xo L) := hk; clear hk; have TB : Hid (Lv w vk w.heap.size ao n cap P K) := (Lv.grow TT.out (by first | exact undrew bb | exact bb)); clear bb TT c0 c1; have TT : Hid (Lv w vk w.heap.size ao n cap P K) := TB.out; clear TB; obtain ⟨c0, c1⟩ := TT.out.c)
          | (go_at_call 14; (with_reducible refine Calls.mono (C2'.out _ TT.out.l) ?_); rintro e vk ⟨⟨yo, yc, rfl, hk, hyc⟩, bb⟩; have YY : Hid (Is vk yo M ∧ b ≤ yc) := ⟨hk, hyc⟩; clear hk hyc; have XB : Hid (Is vk xo L) := (Is.grow XX.out (by first | exact undrew bb | exact bb)); have TB : Hid (Lv w vk w.heap.size ao n cap P K) := (Lv.grow TT.out (by first | exact undrew bb | exact bb)); clear bb TT c0 c1 XX; have XX : Hid (Is vk xo L) := XB.out; clear XB; have TT : Hid (Lv w vk w.heap.size ao n cap P K) := TB.out; clear TB; obtain ⟨c0, c1⟩ := TT.out.c))
      have hyc := YY.out.2
      clear c0 c1 C1' C2' LD
      go_wp2_with fail
      refine Calls.mono (CA.out vk) ?_; rintro e w5 ⟨rfl, b5⟩
      have B5 : Hid (Below w.heap.size w w5) := TT.out.bel.trans (b5.mono TT.out.bel.size)
      have X5 : Hid (Is w5 xo L) := XX.out.grow b5
      have Y5 : Hid (Is w5 yo L) := is_part (YY.out.1.grow b5) HPT.out
      clear b5 CA XX YY TT
      go_wp2_with fail
      refine Calls.mono (CP.out w5 _ _ _ _ Y5.out X5.out) ?_; rintro e w6 ⟨rfl, b6⟩
      have B6 : Hid (Below w.heap.size w w6) := B5.out.trans (b6.mono B5.out.size)
      clear b6
      go_wp2_with fail
      go_ret
      exact ⟨rfl, B6.out⟩
    · have hmI : (100 : Int) < (u.size : Int) := by omega
      clear b1 hp
      go_enter Try.func7, Try.ntmps7
      go_wp2_with (first | rw [← E1.out])
      clear E1
      refine Calls.mono (Hid.out CF) ?_; rintro e w2 ⟨rfl, b2⟩
      have B2 : Hid (Below w.heap.size w w2) := B1.out.trans (b2.mono B1.out.size)
      clear b2 CF c0 c1
      go_wp2_with fail
      refine Calls.mono (CA.out w2) ?_; rintro e w3 ⟨rfl, b3⟩
      have B3 : Hid (Below w.heap.size w w3) := B2.out.trans (b3.mono B2.out.size)
      clear b3 CA
      go_wp2_with fail
      go_ret
      exact ⟨rfl, B3.out⟩
  · rw [decide_eq_false hn] at CF
    clear b1 hp hn
    go_enter Try.func7, Try.ntmps7
    go_wp2_with (first | rw [← E1.out])
    clear E1
    refine Calls.mono (Hid.out CF) ?_; rintro e w2 ⟨rfl, b2⟩
    have B2 : Hid (Below w.heap.size w w2) := B1.out.trans (b2.mono B1.out.size)
    clear b2 CF c0 c1
    go_wp2_with fail
    refine Calls.mono (CA.out w2) ?_; rintro e w3 ⟨rfl, b3⟩
    have B3 : Hid (Below w.heap.size w w3) := B2.out.trans (b3.mono B2.out.size)
    clear b3 CA
    go_wp2_with fail
    go_ret
    exact ⟨rfl, B3.out⟩

end Go.Proofs.Ytpogipingefkaaa.naiveMore
