/- Contracts of the document's own answers of layer 11: Check, Counts, Find. -/
import Derived.Test.YtppmmobmoanagaaDoorSyRef
import Derived.Test.YtppmmobmoanagaaDoorTold5
namespace Go.Proofs.YtppmmobmoanagaaDoor
open Go.RowKit Res
namespace Cls

set_option maxHeartbeats 2000000 in
theorem refCheck11_any (P : Nat → Nat → Bool) (n cap : Nat) (ao : Option Addr) (K z : Int) (s : ByteArray) (w : World) (hl : Lf w ao n P) :
    Calls Tryd.prog 38 #[.agg #[.slice ao n cap, .int .i64 K], .string s, .int .i64 z] w fun e w' => e = .returned (.int .i64 (se P n K s.size z)) ∧ Below w.heap.size w w' := by
  obtain ⟨w1, b1⟩ := lbox w (.slice ao n cap) (.int .i64 K)
  have E1 : Hid _ := b1.eq
  have B1 : Hid (Below w.heap.size w w1) := b1.bel
  have s1 : w.heap.size < w1.heap.size := by have := b1.size; omega
  have HC : Hid (w1.cell? ⟨w.heap.size, 0, none⟩ = some (.slice ao n cap) ∧ w1.cell? ⟨w.heap.size, 1, none⟩ = some (.int .i64 K)) := ⟨b1.c0, b1.c1⟩
  have c0 := HC.out.1
  have c1 := HC.out.2
  have cc : Hid _ := refRight_any P n cap ao K w1 (hl.grow b1.bel)
  have hn := hl.small
  clear b1 hl
  cases hr : rgt P n K with
  | false =>
    have HE : Hid (se P n K s.size z = 170) := se_form hr
    rw [hr] at cc
    clear hr
    go_enter Tryd.func38, Tryd.ntmps38
    go_wp2_with (first | rw [← E1.out])
    refine Calls.mono (Hid.out cc) ?_; rintro e w2 ⟨rfl, b2⟩
    have B2 : Hid (Below w.heap.size w w2) := B1.out.trans (b2.mono B1.out.size)
    clear b2 cc c0 c1 E1
    go_wp2_with fail
    go_ret
    exact ⟨by rw [HE.out]; rfl, B2.out⟩
  | true =>
    rw [hr] at cc
    have cz : Hid _ := fun v => refSize10_any n s.size z v
    cases hq : (decide (n ≤ s.size) && !szb n z) with
    | true =>
      have hq1 : n ≤ s.size ∧ szb n z = false := by simpa using hq
      have HE : Hid (se P n K s.size z = 50) := se_size hr hq1.1 hq1.2
      rw [hq] at cz
      clear hr hq hq1
      go_enter Tryd.func38, Tryd.ntmps38
      go_wp2_with (first | rw [← E1.out])
      refine Calls.mono (Hid.out cc) ?_; rintro e w2 ⟨rfl, b2⟩
      have B2 : Hid (Below w.heap.size w w2) := B1.out.trans (b2.mono B1.out.size)
      obtain ⟨d0, d1⟩ := two_below HC.out b2 s1
      clear b2 cc c0 c1 E1
      go_wp2_with fail
      refine Calls.mono (cz.out _) ?_; rintro e w' ⟨rfl, hw'⟩; subst w'
      go_wp2_with fail
      go_ret
      exact ⟨by rw [HE.out]; rfl, B2.out⟩
    | false =>
      have hq1 : s.size < n ∨ szb n z = true := by
        rw [Bool.and_eq_false_iff] at hq
        rcases hq with h | h
        · have := of_decide_eq_false h; exact .inl (by omega)
        · exact .inr (by simpa using h)
      have HE : Hid (se P n K s.size z = 0) := se_ok hr hq1
      rw [hq] at cz
      clear hr hq hq1
      go_enter Tryd.func38, Tryd.ntmps38
      go_wp2_with (first | rw [← E1.out])
      refine Calls.mono (Hid.out cc) ?_; rintro e w2 ⟨rfl, b2⟩
      have B2 : Hid (Below w.heap.size w w2) := B1.out.trans (b2.mono B1.out.size)
      obtain ⟨d0, d1⟩ := two_below HC.out b2 s1
      clear b2 cc c0 c1 E1
      go_wp2_with fail
      refine Calls.mono (cz.out _) ?_; rintro e w' ⟨rfl, hw'⟩; subst w'
      go_wp2_with fail
      go_ret
      exact ⟨by rw [HE.out]; rfl, B2.out⟩

set_option maxRecDepth 4000 in
set_option maxHeartbeats 2000000 in
theorem refCounts11_any (P : Nat → Nat → Bool) (n cap : Nat) (ao : Option Addr) (K z : Int) (s : ByteArray) (hs : s.size ≤ 1000000) (w : World) (hl : Lf w ao n P) :
    Calls Tryd.prog 17 #[.agg #[.slice ao n cap, .int .i64 K], .string s, .int .i64 z] w (Told5 w (sc P n K s z) (sq P n K s.size z) (se P n K s.size z)) := by
  obtain ⟨w1, b1⟩ := lbox w (.slice ao n cap) (.int .i64 K)
  have E1 : Hid _ := b1.eq
  have B1 : Hid (Below w.heap.size w w1) := b1.bel
  have s1 : w.heap.size < w1.heap.size := by have := b1.size; omega
  have HC : Hid (w1.cell? ⟨w.heap.size, 0, none⟩ = some (.slice ao n cap) ∧ w1.cell? ⟨w.heap.size, 1, none⟩ = some (.int .i64 K)) := ⟨b1.c0, b1.c1⟩
  have c0 := HC.out.1
  have c1 := HC.out.2
  have HL1 : Hid (Lf w1 ao n P) := hl.grow b1.bel
  have cc : Hid _ := refCheck11_any P n cap ao K z s w1 HL1.out
  have hn := hl.small
  clear b1 hl
  by_cases he : se P n K s.size z = 0
  · rw [sc_ok he, sq_ok he]
    rw [he] at cc ⊢
    obtain ⟨hr, _⟩ := se_rgt he
    obtain ⟨⟨q0, q1⟩, _⟩ := sq_le (m := s.size) (z := z) hr
    obtain ⟨ct0, ct1⟩ := ct_small11 (n := n) (m := s.size) (z := z)
    have ck : Hid (∀ v, Below w1.heap.size w1 v → Calls Tryd.prog 39 #[.agg #[.slice ao n cap, .int .i64 K]] v fun e w' => (∃ bo d, e = .returned (.slice bo (kd P n).length d)) ∧ Below v.heap.size v w') := fun v hv => (refKinds_any P n cap ao K v (HL1.out.grow hv)).mono fun e w' ⟨⟨bo, d, he, _⟩, hb⟩ => ⟨⟨bo, d, he⟩, hb⟩
    have cn : Hid _ := fun v => refCount_any n s.size z v
    have cs : Hid (∀ v, Below w1.heap.size w1 v → Calls Tryd.prog 25 #[.agg #[.slice ao n cap, .int .i64 K], .string s] v (Told v (cts P n K s))) := fun v hv => refCounts_any P n cap ao K s hs v (HL1.out.grow hv)
    obtain ⟨L, hL⟩ : ∃ L, cts P n K s = L := ⟨_, rfl⟩
    rw [hL] at cs ⊢
    have hk := kd_len P n
    generalize (kd P n).length = m at *
    generalize ct n s.size z = C at *
    obtain ⟨Q, hQ⟩ : ∃ Q, (m : Int) * C = Q := ⟨_, rfl⟩
    rw [hQ] at q0 q1 ⊢
    have hQw : IntKind.i64.wrap ((m : Int) * C) = Q := by rw [hQ, IntKind.wrap_i64]; omega
    clear he hr hL hQ
    go_enter Tryd.func17, Tryd.ntmps17
    go_wp2_with (first | rw [← E1.out])
    refine Calls.mono (Hid.out cc) ?_; rintro e w2 ⟨rfl, b2⟩
    have B12 : Hid (Below w1.heap.size w1 w2) := b2
    obtain ⟨d0, d1⟩ := two_below HC.out b2 s1
    clear b2 cc c0 c1 E1
    go_wp2_with fail
    go_region_held3 (fun w' => w'.cell? ⟨w.heap.size, 0, none⟩ = some (.slice ao n cap) ∧ w'.cell? ⟨w.heap.size, 1, none⟩ = some (.int .i64 K)) (go_keep)
      (first | (go_at_call 39; refine Calls.mono (ck.out _ (by first | exact B12.out | exact B12.out.drew)) ?_; rintro e w3 ⟨⟨bo, d, rfl⟩, b3⟩; have B13 : Hid (Below w1.heap.size w1 w3) := B12.out.trans ((undrew b3).mono B12.out.size); obtain ⟨x0, x1⟩ := two_below HC.out B13.out s1; clear b3)
             | (go_at_call 40; refine Calls.mono (cn.out _) ?_; rintro e w' ⟨rfl, hw'⟩; subst w'))
    go_wp2_with fail
    refine Calls.mono (cs.out _ B13.out) ?_; rintro e w4 ⟨⟨bo4, d4, rfl, i4, _⟩, b4⟩
    have HT : Hid (Told5 w L Q 0 (.returned (.tuple #[.slice bo4 L.length d4, .int .i64 Q, .int .i64 0])) w4) := ⟨⟨_, _, rfl, i4⟩, B1.out.trans ((B13.out.trans (b4.mono B13.out.size)).mono B1.out.size)⟩
    clear b4 i4
    go_wp2_with fail
    refine bodyPost_ret (results_tmp3 rfl _ _ _) rfl ?_
    exact HT.out
  · rw [sc_no he, sq_no he]
    obtain ⟨C, hC⟩ : ∃ C, se P n K s.size z = C := ⟨_, rfl⟩
    rw [hC] at cc he ⊢
    have hC0 : (C == 0) = false := by simpa using he
    clear hC
    go_enter Tryd.func17, Tryd.ntmps17
    go_wp2_with (first | rw [← E1.out])
    refine Calls.mono (Hid.out cc) ?_; rintro e w2 ⟨rfl, b2⟩
    have B2 : Hid (Below w.heap.size w w2) := B1.out.trans (b2.mono B1.out.size)
    clear b2 cc c0 c1 E1
    go_wp2_with fail
    refine bodyPost_ret (results_tmp3 rfl _ _ _) rfl ?_
    exact told5_nil B2.out

set_option maxHeartbeats 2000000 in
theorem refFind11_any (P : Nat → Nat → Bool) (n cap : Nat) (ao : Option Addr) (K z : Int) (s : ByteArray) (hs : s.size ≤ 1000000) (w : World) (hl : Lf w ao n P) :
    Calls Tryd.prog 20 #[.agg #[.slice ao n cap, .int .i64 K], .string s, .int .i64 z] w (Told5 w (sf P n K s z) (sq P n K s.size z) (se P n K s.size z)) := by
  obtain ⟨w1, b1⟩ := lbox w (.slice ao n cap) (.int .i64 K)
  have E1 : Hid _ := b1.eq
  have B1 : Hid (Below w.heap.size w w1) := b1.bel
  have s1 : w.heap.size < w1.heap.size := by have := b1.size; omega
  have HC : Hid (w1.cell? ⟨w.heap.size, 0, none⟩ = some (.slice ao n cap) ∧ w1.cell? ⟨w.heap.size, 1, none⟩ = some (.int .i64 K)) := ⟨b1.c0, b1.c1⟩
  have c0 := HC.out.1
  have c1 := HC.out.2
  have cc : Hid _ := refCounts11_any P n cap ao K z s hs w1 (hl.grow b1.bel)
  have HF : Hid _ := sf_hts P n K s z
  have hlen := sc_len P n K s z
  obtain ⟨L, hL⟩ : ∃ L, sc P n K s z = L := ⟨_, rfl⟩
  rw [hL] at cc HF hlen
  have hh : Hid (∀ (v : World) (bo : Option Addr) (d : Nat), Is v bo L → Calls Tryd.prog 42 #[.slice bo L.length d, .int .i64 K] v (Told v (sf P n K s z))) := fun v bo d hi => by rw [HF.out]; exact refHits_any _ K L.length d bo (by omega) v hi.ir
  generalize sf P n K s z = G at *
  generalize sq P n K s.size z = Q at *
  generalize se P n K s.size z = C at *
  obtain ⟨m, hm⟩ : ∃ m, L.length = m := ⟨_, rfl⟩
  have hh' : Hid (∀ (v : World) (bo : Option Addr) (d : Nat), Is v bo L → Calls Tryd.prog 42 #[.slice bo m d, .int .i64 K] v (Told v G)) := fun v bo d hi => by rw [← hm]; exact hh.out v bo d hi
  have cc' : Hid (Calls Tryd.prog 17 #[.agg #[.slice ao n cap, .int .i64 K], .string s, .int .i64 z] w1 fun e w' => (∃ bo d, e = .returned (.tuple #[.slice bo m d, .int .i64 Q, .int .i64 C]) ∧ Is w' bo L) ∧ Below w1.heap.size w1 w') := Calls.mono cc.out (fun e w' h => by rw [← hm]; exact h)
  clear b1 hl hL cc hh hlen HF hm
  go_enter Tryd.func20, Tryd.ntmps20
  go_wp2_with (first | rw [← E1.out])
  refine Calls.mono (Hid.out cc') ?_; rintro e w2 ⟨⟨bo, d, rfl, i2⟩, b2⟩
  have B2 : Hid (Below w.heap.size w w2) := B1.out.trans (b2.mono B1.out.size)
  have c2 : Hid _ := hh'.out w2 bo d i2
  obtain ⟨d0, d1⟩ := two_below HC.out b2 s1
  clear b2 cc' c0 c1 E1 i2 hh'
  go_wp2_with fail
  refine Calls.mono (Hid.out c2) ?_; rintro e w3 ⟨⟨bo3, d3, rfl, i3, _⟩, b3⟩
  have HT : Hid (Told5 w G Q C (.returned (.tuple #[.slice bo3 G.length d3, .int .i64 Q, .int .i64 C])) w3) := ⟨⟨_, _, rfl, i3⟩, B2.out.trans (b3.mono B2.out.size)⟩
  clear b3 i3 c2 d0 d1
  go_wp2_with fail
  refine bodyPost_ret (results_tmp3 rfl _ _ _) rfl ?_
  exact HT.out

end Cls
end Go.Proofs.YtppmmobmoanagaaDoor
