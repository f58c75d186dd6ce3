/- Contracts of naive.At, naive.Hits; the document's Hits. -/
import Derived.Test.YtpogipingefkaaaNvCol
namespace Go.Proofs.Ytpogipingefkaaa
open Go.RowKit Go.Shelf
namespace Cls

/-- A slice of n numbers. -/
def Ir (w : World) (ao : Option Addr) (n : Nat) (C : Nat → Int) : Prop := 1 ≤ n → ∃ b o, ao = some ⟨b, o, none⟩ ∧ b < w.heap.size ∧ ∀ t, t < n → w.cell? ⟨b, o + t, none⟩ = some (.int .i64 (C t))

theorem Ir.grow {w w' : World} {ao : Option Addr} {n : Nat} {C : Nat → Int} (h : Ir w ao n C) (hb : Below w.heap.size w w') : Ir w' ao n C := fun hn => by
  obtain ⟨b, o, e, hlt, hc⟩ := h hn
  exact ⟨b, o, e, Nat.lt_of_lt_of_le hlt hb.size, fun t ht => (hb.cell (p := ⟨b, o + t, none⟩) hlt).trans (hc t ht)⟩

theorem Is.ir {w : World} {ao : Option Addr} {L : List Nat} (h : Is w ao L) : Ir w ao L.length (fun t => ((L.getD t 0 : Nat) : Int)) := fun hn => by
  obtain ⟨b, e, hlt, hc⟩ := h hn
  refine ⟨b, 0, e, hlt, fun t ht => ?_⟩
  rw [Nat.zero_add, hc t ht]
  simp [ht]

set_option maxHeartbeats 1000000 in
theorem hits_any (C : Nat → Int) (k : Int) (n cap : Nat) (ao : Option Addr) (hn : n ≤ 10000000) (w : World) (hl : Ir w ao n C) :
    Calls Try.prog 20 #[.slice ao n cap, .int .i64 k] w (Told w (hts C k n)) := by
  have HL : Hid (Ir w ao n C) := hl
  obtain ⟨i0, hi, hz0, hz1, hz2⟩ := infoI
  clear hl
  go_enter Try.func20, Try.ntmps20
  go_wp2_with fail
  go_loopw [5, 10] (fun vo vk wr => Below w.heap.size w wr ∧ ∃ j : Nat, j ≤ n ∧ vk = .int .i64 j ∧ OwnI wr w.heap.size vo (hts C k j)) (fun _ vk _ => n - (intOf vk).toNat)
  case atStart => exact ⟨Below.refl _ _, 0, Nat.zero_le _, rfl, World.ownsRow_nil _ _ _ _⟩
  case round =>
    obtain ⟨hbel, j, hj, rfl, hown⟩ := hrel
    have HB : Hid _ := hbel
    have O3 : wr.ownsRow w.heap.size 3 1 u5 (hts C k j).length (pls (hts C k j)) := hown
    have HLr : Hid (Ir wr ao n C) := HL.out.grow hbel
    have hsz : w.heap.size ≤ wr.heap.size := hbel.size
    clear hbel hown
    by_cases hjn : j < n
    · obtain ⟨b, o, rfl, hb, hC⟩ := HLr.out (by omega)
      have c0 := hC j hjn
      have hjI : (j : Int) < (n : Int) := by omega
      have hlen := hts_len C k j
      clear hC
      by_cases hk : C j ≤ k
      · have HW' : Hid (hts C k (j + 1) = hts C k j ++ [j]) := hts_yes hk
        go_wp2_with (first | (at_builtin; refine wpList_append_own _ rfl _ _ 30 rfl w.heap.size 3 i0 (.int .i64 0) 1 8 Try.underlying30 hi hz0 hz1 hz2 rfl (by decide) _ _ _ rfl (O3.alloc _) ⟨wr.heap.size, 0, none⟩ 1 1 [.int .i64 (j : Int)] rfl rfl ?c1 ?c2 ?c3 ?c4 ?c5 ?_))
        case c1 =>
          intro j' u hj'
          match j', hj' with
          | 0, hj' => simp at hj'; subst hj'; simp [Addr.add]
        case c2 => intro u hu; simp at hu; subst hu; rfl
        case c3 => unfold maxLen; omega
        case c4 => omega
        case c5 => simp; omega
        · intro v' w4 hown' hgrow _
          have HR : Hid (Below w.heap.size w w4) := grow_below hsz HB.out O3 hgrow
          have HO4 : Hid (OwnI w4 w.heap.size v' (hts C k (j + 1))) := by show OwnI _ _ _ _; unfold OwnI; rw [HW'.out, List.length_append, pls, List.map_append]; exact hown'
          clear hown' hgrow O3 HB
          go_wp2_with fail
          go_roundw
          case rel => exact ⟨HR.out, j + 1, by omega, by go_num, HO4.out⟩
          case measure => simp [intOf]; omega
      · have HW' : Hid (hts C k (j + 1) = hts C k j) := hts_no hk
        have hk2 : k < C j := by omega
        have HO : Hid (OwnI wr w.heap.size u5 (hts C k j)) := O3
        clear O3
        go_wp2_with fail
        go_roundw
        case rel => exact ⟨HB.out, j + 1, by omega, by go_num, by rw [HW'.out]; exact HO.out⟩
        case measure => simp [intOf]; omega
    · obtain rfl : j = n := by omega
      have HT : Hid (Told w (hts C k j) (.returned u5) wr) := told_of O3 HB.out
      obtain ⟨⟨bo, d, e, _⟩, _⟩ := HT.out
      cases e
      clear O3
      go_wp2_with fail
      go_ret
      exact HT.out

set_option maxHeartbeats 1000000 in
theorem refHits_any (C : Nat → Int) (k : Int) (n cap : Nat) (ao : Option Addr) (hn : n ≤ 10000000) (w : World) (hl : Ir w ao n C) :
    Calls Try.prog 21 #[.slice ao n cap, .int .i64 k] w (Told w (hts C k n)) := by
  have HL : Hid (Ir w ao n C) := hl
  obtain ⟨i0, hi, hz0, hz1, hz2⟩ := infoI
  clear hl
  go_enter Try.func21, Try.ntmps21
  go_wp2_with fail
  go_loopw [5, 6] (fun vo vk wr => Below w.heap.size w wr ∧ ∃ j : Nat, j ≤ n ∧ vk = .int .i64 j ∧ OwnI wr w.heap.size vo (hts C k j)) (fun _ vk _ => n - (intOf vk).toNat)
  case atStart => exact ⟨Below.refl _ _, 0, Nat.zero_le _, rfl, World.ownsRow_nil _ _ _ _⟩
  case round =>
    obtain ⟨hbel, j, hj, rfl, hown⟩ := hrel
    have HB : Hid _ := hbel
    have O3 : wr.ownsRow w.heap.size 3 1 u5 (hts C k j).length (pls (hts C k j)) := hown
    have HLr : Hid (Ir wr ao n C) := HL.out.grow hbel
    have hsz : w.heap.size ≤ wr.heap.size := hbel.size
    clear hbel hown
    by_cases hjn : j < n
    · obtain ⟨b, o, rfl, hb, hC⟩ := HLr.out (by omega)
      have c0 := hC j hjn
      have hjI : (j : Int) < (n : Int) := by omega
      have hlen := hts_len C k j
      clear hC
      by_cases hk : C j ≤ k
      · have HW' : Hid (hts C k (j + 1) = hts C k j ++ [j]) := hts_yes hk
        go_wp2_with (first | (at_builtin; refine wpList_append_own _ rfl _ _ 30 rfl w.heap.size 3 i0 (.int .i64 0) 1 8 Try.underlying30 hi hz0 hz1 hz2 rfl (by decide) _ _ _ rfl (O3.alloc _) ⟨wr.heap.size, 0, none⟩ 1 1 [.int .i64 (j : Int)] rfl rfl ?c1 ?c2 ?c3 ?c4 ?c5 ?_))
        case c1 =>
          intro j' u hj'
          match j', hj' with
          | 0, hj' => simp at hj'; subst hj'; simp [Addr.add]
        case c2 => intro u hu; simp at hu; subst hu; rfl
        case c3 => unfold maxLen; omega
        case c4 => omega
        case c5 => simp; omega
        · intro v' w4 hown' hgrow _
          have HR : Hid (Below w.heap.size w w4) := grow_below hsz HB.out O3 hgrow
          have HO4 : Hid (OwnI w4 w.heap.size v' (hts C k (j + 1))) := by show OwnI _ _ _ _; unfold OwnI; rw [HW'.out, List.length_append, pls, List.map_append]; exact hown'
          clear hown' hgrow O3 HB
          go_wp2_with fail
          go_roundw
          case rel => exact ⟨HR.out, j + 1, by omega, by go_num, HO4.out⟩
          case measure => simp [intOf]; omega
      · have HW' : Hid (hts C k (j + 1) = hts C k j) := hts_no hk
        have hk2 : k < C j := by omega
        have HO : Hid (OwnI wr w.heap.size u5 (hts C k j)) := O3
        clear O3
        go_wp2_with fail
        go_roundw
        case rel => exact ⟨HB.out, j + 1, by omega, by go_num, by rw [HW'.out]; exact HO.out⟩
        case measure => simp [intOf]; omega
    · obtain rfl : j = n := by omega
      have HT : Hid (Told w (hts C k j) (.returned u5) wr) := told_of O3 HB.out
      obtain ⟨⟨bo, d, e, _⟩, _⟩ := HT.out
      cases e
      clear O3
      go_wp2_with fail
      go_ret
      exact HT.out


/-- Does a leaf stand there? -/
def ata (P : Nat → Nat → Bool) (n : Nat) (K : Int) (s : ByteArray) (i : Int) : Bool := decide (0 ≤ i ∧ i < (stn P n K s.size : Int))

/-- How many it misses there. -/
def atv (P : Nat → Nat → Bool) (n : Nat) (K : Int) (s : ByteArray) (i : Int) : Nat := if ata P n K s i = true then mis P s i.toNat n else 0

set_option maxHeartbeats 1000000 in
theorem at_any (P : Nat → Nat → Bool) (n cap : Nat) (ao : Option Addr) (K : Int) (s : ByteArray) (i : Int) (hs : s.size ≤ 1000000) (w : World) (hl : Lf w ao n P) :
    Calls Try.prog 11 #[.agg #[.slice ao n cap, .int .i64 K], .string s, .int .i64 i] w fun e w' => e = .returned (.tuple #[.int .i64 ((atv P n K s i : Nat) : Int), .bool (ata P n K s i)]) ∧ Below w.heap.size w w' := by
  obtain ⟨w1, b1⟩ := lbox w (.slice ao n cap) (.int .i64 K)
  have E1 : Hid _ := b1.eq
  have B1 : Hid (Below w.heap.size w w1) := b1.bel
  have s1 : w.heap.size < w1.heap.size := by have := b1.size; omega
  have HC : Hid (w1.cell? ⟨w.heap.size, 0, none⟩ = some (.slice ao n cap) ∧ w1.cell? ⟨w.heap.size, 1, none⟩ = some (.int .i64 K)) := ⟨b1.c0, b1.c1⟩
  have c0 := HC.out.1
  have c1 := HC.out.2
  have HL1 : Hid (Lf w1 ao n P) := hl.grow b1.bel
  have cc : Hid _ := room_any P n cap ao K s hs w1 HL1.out
  clear b1 hl
  obtain ⟨m, hm⟩ : ∃ m, stn P n K s.size = m := ⟨_, rfl⟩
  rw [hm] at cc
  by_cases h0 : 0 ≤ i
  · have h0' : ¬ i < 0 := by omega
    by_cases hlt : i < (m : Int)
    · have ea : ata P n K s i = true := by unfold ata; rw [hm]; exact decide_eq_true ⟨h0, hlt⟩
      have ev : atv P n K s i = mis P s i.toNat n := by unfold atv; rw [if_pos ea]
      rw [ea, ev]
      obtain ⟨q, rfl⟩ : ∃ q : Nat, i = (q : Int) := ⟨i.toNat, by omega⟩
      have hq := (stn_lt (P := P) (m := n) (n := s.size) (K := K) (i := q)).1 (by rw [hm]; omega)
      have hq2 : Hid (q + n ≤ s.size) := hq.2
      rw [show ((q : Int)).toNat = q from rfl]
      have hge : ¬ (m : Int) ≤ (q : Int) := by omega
      clear ea ev hm hq
      go_enter Try.func11, Try.ntmps11
      go_wp2_with (first | rw [← E1.out])
      refine Calls.mono (Hid.out cc) ?_; rintro e w2 ⟨rfl, b2⟩
      have B2 : Hid (Below w.heap.size w w2) := B1.out.trans (b2.mono B1.out.size)
      have c2 := two_below HC.out b2 s1
      have d0 := c2.1
      have d1 := c2.2
      have c3 : Hid _ := misses_any P n cap ao K s q hs hq2.out w2 (HL1.out.grow b2)
      clear b2 cc c0 c1 E1 c2
      go_wp2_with fail
      refine Calls.mono (Hid.out c3) ?_; rintro e w3 ⟨rfl, b3⟩
      have B3 : Hid (Below w.heap.size w w3) := B2.out.trans (b3.mono B2.out.size)
      clear b3 c3
      go_wp2_with fail
      refine bodyPost_ret (results_tmp2 rfl _ _ _) rfl ?_
      exact ⟨rfl, B3.out⟩
    · have ea : ata P n K s i = false := by unfold ata; rw [hm]; exact decide_eq_false (fun h => hlt h.2)
      have ev : atv P n K s i = 0 := by unfold atv; rw [if_neg (by rw [ea]; decide)]
      rw [ea, ev]
      have hge : (m : Int) ≤ i := by omega
      clear ea ev hm
      go_enter Try.func11, Try.ntmps11
      go_wp2_with (first | rw [← E1.out])
      refine Calls.mono (Hid.out cc) ?_; rintro e w2 ⟨rfl, b2⟩
      have B2 : Hid (Below w.heap.size w w2) := B1.out.trans (b2.mono B1.out.size)
      clear b2 cc c0 c1 E1
      go_wp2_with fail
      refine bodyPost_ret (results_tmp2 rfl _ _ _) rfl ?_
      exact ⟨rfl, B2.out⟩
  · have ea : ata P n K s i = false := by unfold ata; rw [hm]; exact decide_eq_false (fun h => h0 h.1)
    have ev : atv P n K s i = 0 := by unfold atv; rw [if_neg (by rw [ea]; decide)]
    rw [ea, ev]
    have h1 : i < 0 := by omega
    clear ea ev hm
    go_enter Try.func11, Try.ntmps11
    go_wp2_with (first | rw [← E1.out])
    refine bodyPost_ret (results_tmp2 rfl _ _ _) rfl ?_
    exact ⟨rfl, B1.out⟩
end Cls
end Go.Proofs.Ytpogipingefkaaa
