/- Contracts of the document's Sums, Find of layer 10. -/
import Derived.Test.YtbojmkkpgglhhaaDoorWdRef
import Derived.Test.YtbojmkkpgglhhaaDoorBlkA
import Derived.Test.YtbojmkkpgglhhaaDoorNvA
namespace Go.Proofs.YtbojmkkpgglhhaaDoor
open Go.RowKit Res
namespace Cls

/-- The terms, as they are reckoned. -/
theorem wt_hi {p b d : Int} (h : d = p - b) : p * d * d = wt p b := by rw [h]; unfold wt; rw [Int.mul_assoc]

theorem wt_lo {p b d : Int} (h : d = b - p) : p * d * d = wt p b := by
  have e : d = -(p - b) := by omega
  rw [e]
  unfold wt
  rw [Int.mul_assoc, Int.neg_mul_neg]

theorem term_le {p d : Int} (h0 : 0 ≤ p) (h1 : p ≤ 256) (h2 : 0 ≤ d) (h3 : d ≤ 256) : 0 ≤ p * d ∧ p * d ≤ 65536 ∧ 0 ≤ p * d * d ∧ p * d * d ≤ 16777216 := by
  have a0 : 0 ≤ p * d := Int.mul_nonneg h0 h2
  have a1 : p * d ≤ 256 * 256 := Int.mul_le_mul h1 h3 h2 (by omega)
  have a2 : 0 ≤ p * d * d := Int.mul_nonneg a0 h2
  have a3 : p * d * d ≤ 256 * 256 * 256 := Int.mul_le_mul a1 h3 h2 (by omega)
  omega

set_option maxRecDepth 4000 in
set_option maxHeartbeats 4000000 in
theorem refWSums_any (P : Nat → Nat → Bool) (n cap : Nat) (ao : Option Addr) (K z : Int) (s : ByteArray) (hs : s.size ≤ 1000000) (w : World) (hl : Lf w ao n P) :
    Calls Tryd.prog 16 #[.agg #[.slice ao n cap, .int .i64 K], .string s, .int .i64 z] w (Told3 w (wn P n K s.size z) (fun i => ws P s i n) (wq P n K s.size z) (we P n K s.size z)) := by
  obtain ⟨w1, b1⟩ := lbox w (.slice ao n cap) (.int .i64 K)
  have E1 : Hid _ := b1.eq
  have B1 : Hid (Below w.heap.size w w1) := b1.bel
  have s1 : w.heap.size < w1.heap.size := by have := b1.size; omega
  have HC : Hid (w1.cell? ⟨w.heap.size, 0, none⟩ = some (.slice ao n cap) ∧ w1.cell? ⟨w.heap.size, 1, none⟩ = some (.int .i64 K)) := ⟨b1.c0, b1.c1⟩
  have c0 := HC.out.1
  have c1 := HC.out.2
  have HL1 : Hid (Lf w1 ao n P) := hl.grow b1.bel
  have cc : Hid _ := refRight_any P n cap ao K w1 HL1.out
  have cp : Hid (∀ v, Below w1.heap.size w1 v → Calls Tryd.prog 36 #[.agg #[.slice ao n cap, .int .i64 K]] v fun e w' => e = .returned (.bool (pln P n)) ∧ Below v.heap.size v w') := fun v hv => refPlain_any P n cap ao K v (HL1.out.grow hv)
  have hn := hl.small
  clear b1 hl
  cases hr : rgt P n K with
  | false =>
    have hw : wok P n K = false := by unfold wok; rw [hr]; rfl
    obtain ⟨e1, e2, e3⟩ := we_form (m := s.size) (z := z) hw
    rw [e1, e2, e3]
    rw [hr] at cc
    clear e1 e2 e3 hw hr cp
    go_enter Tryd.func16, Tryd.ntmps16
    go_wp2_with (first | rw [← E1.out])
    refine Calls.mono (Hid.out cc) ?_; rintro e w2 ⟨rfl, b2⟩
    have B2 : Hid (Below w.heap.size w w2) := B1.out.trans (b2.mono B1.out.size)
    clear b2 cc c0 c1 E1
    go_wp2_with fail
    refine bodyPost_ret (results_tmp3 rfl _ _ _) rfl ?_
    exact ⟨none, 0, rfl, fun h => by omega, B2.out⟩
  | true =>
    rw [hr] at cc
    cases hp : pln P n with
    | false =>
      have hw : wok P n K = false := by unfold wok; rw [hr, hp]; rfl
      obtain ⟨e1, e2, e3⟩ := we_form (m := s.size) (z := z) hw
      rw [e1, e2, e3]
      rw [hp] at cp
      clear e1 e2 e3 hw hr hp
      go_enter Tryd.func16, Tryd.ntmps16
      go_wp2_with (first | rw [← E1.out])
      refine Calls.mono (Hid.out cc) ?_; rintro e w2 ⟨rfl, b2⟩
      have B2 : Hid (Below w.heap.size w w2) := B1.out.trans (b2.mono B1.out.size)
      have cp' : Hid _ := cp.out w2 b2
      obtain ⟨d0, d1⟩ := two_below HC.out b2 s1
      clear b2 cc c0 c1 E1 cp
      go_wp2_with fail
      refine Calls.mono (Hid.out cp') ?_; rintro e w3 ⟨rfl, b3⟩
      have B3 : Hid (Below w.heap.size w w3) := B2.out.trans (b3.mono B2.out.size)
      clear b3 cp' d0 d1
      go_wp2_with fail
      refine bodyPost_ret (results_tmp3 rfl _ _ _) rfl ?_
      exact ⟨none, 0, rfl, fun h => by omega, B3.out⟩
    | true =>
      have hw : wok P n K = true := by unfold wok; rw [hr, hp]; rfl
      obtain ⟨h1, h64, _, _⟩ := wok_len hw
      rw [hp] at cp
      have cz : Hid _ := fun v => refSize10_any n s.size z v
      cases hq : (decide (n ≤ s.size) && !szb n z) with
      | true =>
        have hq1 : n ≤ s.size ∧ szb n z = false := by simpa using hq
        obtain ⟨e1, e2, e3⟩ := we_size (m := s.size) hw hq1.1 hq1.2
        rw [e1, e2, e3]
        rw [hq] at cz
        clear e1 e2 e3 hw hr hp hq hq1
        go_enter Tryd.func16, Tryd.ntmps16
        go_wp2_with (first | rw [← E1.out])
        refine Calls.mono (Hid.out cc) ?_; rintro e w2 ⟨rfl, b2⟩
        have B2 : Hid (Below w.heap.size w w2) := B1.out.trans (b2.mono B1.out.size)
        have cp' : Hid _ := cp.out w2 b2
        obtain ⟨d0, d1⟩ := two_below HC.out b2 s1
        clear b2 cc c0 c1 E1 cp
        go_wp2_with fail
        refine Calls.mono (Hid.out cp') ?_; rintro e w3 ⟨rfl, b3⟩
        have B3 : Hid (Below w.heap.size w w3) := B2.out.trans (b3.mono B2.out.size)
        clear b3 cp' d0 d1
        go_wp2_with fail
        refine Calls.mono (cz.out _) ?_; rintro e w' ⟨rfl, hw'⟩; subst w'
        go_wp2_with fail
        refine bodyPost_ret (results_tmp3 rfl _ _ _) rfl ?_
        exact ⟨none, 0, rfl, fun h => by omega, B3.out⟩
      | false =>
        have hq1 : s.size < n ∨ szb n z = true := by
          rw [Bool.and_eq_false_iff] at hq
          rcases hq with h | h
          · left; have := of_decide_eq_false h; omega
          · right; simpa using h
        obtain ⟨e1, e2, e3⟩ := we_ok (m := s.size) hw hq1
        rw [e1, e2, e3]
        rw [hq] at cz
        have cn : Hid _ := fun v => refCount_any (n : Int) (s.size : Int) z v
        obtain ⟨k0, k1⟩ := ct_small (n := n) (m := s.size) (z := z)
        generalize ct (n : Int) (s.size : Int) z = C at *
        obtain ⟨i0, hi, hz0, hz1, hz2⟩ := info_parts infoU
        clear e1 e2 e3 hw hr hp hq hq1
        go_enter Tryd.func16, Tryd.ntmps16
        go_wp2_with (first | rw [← E1.out])
        refine Calls.mono (Hid.out cc) ?_; rintro e w2 ⟨rfl, b2⟩
        have B2 : Hid (Below w.heap.size w w2) := B1.out.trans (b2.mono B1.out.size)
        have cp' : Hid _ := cp.out w2 b2
        have HC2 : Hid _ := two_below HC.out b2 s1
        have s2 : w.heap.size < w2.heap.size := Nat.lt_of_lt_of_le s1 b2.size
        have HL2 : Hid (Lf w2 ao n P) := HL1.out.grow b2
        obtain ⟨d0, d1⟩ := HC2.out
        clear b2 cc c0 c1 E1 cp
        go_wp2_with fail
        refine Calls.mono (Hid.out cp') ?_; rintro e w3 ⟨rfl, b3⟩
        have B3 : Hid (Below w.heap.size w w3) := B2.out.trans (b3.mono B2.out.size)
        have HC3 : Hid _ := two_below HC2.out b3 s2
        have s3 : w.heap.size < w3.heap.size := Nat.lt_of_lt_of_le s2 b3.size
        have HL3 : Hid (Lf w3 ao n P) := HL2.out.grow b3
        clear b3 cp' d0 d1 HC HC2 HL1 HL2
        go_wp2_with fail
        refine Calls.mono (cz.out _) ?_; rintro e w' ⟨rfl, hw'⟩; subst w'
        clear cz
        go_wp2_with fail
        go_loopw [10, 11] (fun vo vi wr => ∃ i : Nat, i ≤ s.size + 1 - n ∧ vi = .int .i64 i ∧ Own wr w3.heap.size vo i (fun i => ws P s i n) ∧ Below w3.heap.size w3 wr) (fun _ vi _ => s.size + 1 - n - (intOf vi).toNat)
        case atStart => exact ⟨0, Nat.zero_le _, rfl, own_nil _ _ _, Below.refl _ _⟩
        case round =>
          obtain ⟨i, hile, rfl, hown, hbel⟩ := hrel
          have Hown : Hid (Own wr w3.heap.size _ i (fun i => ws P s i n)) := hown
          have Hbel : Hid (Below w3.heap.size w3 wr) := hbel
          have HCr : Hid _ := two_below HC3.out hbel s3
          have HLr : Hid (Lf wr ao n P) := HL3.out.grow hbel
          have sr : w.heap.size < wr.heap.size := Nat.lt_of_lt_of_le s3 hbel.size
          have ssr : w3.heap.size ≤ wr.heap.size := hbel.size
          clear hown hbel
          by_cases hlt : i + n ≤ s.size
          · have hltI : (i : Int) + (n : Int) ≤ (s.size : Int) := by omega
            have hz0' : Hid _ := ws_zero P s i
            go_wp2_with fail
            rename World => wo
            go_loopw [12, 13] (fun vx vj wr => Below wo.heap.size wo wr ∧ ∃ j : Nat, j ≤ n ∧ vj = .int .i64 j ∧ vx = .int .u64 (ws P s i j)) (fun _ vj _ => n - (intOf vj).toNat)
            case atStart => exact ⟨Below.refl _ _, 0, Nat.zero_le _, rfl, by rw [hz0'.out]⟩
            case round =>
              obtain ⟨hbel, j, hj, rfl, rfl⟩ := hrel
              have HB : Hid _ := hbel
              have HLj : Hid (Lf wr ao n P) := HLr.out.grow hbel
              obtain ⟨q0, q1⟩ := two_below HCr.out hbel sr
              clear hbel
              by_cases hjn : j < n
              · obtain ⟨b, o, rfl, hb, hC⟩ := HLj.out.lies (by omega)
                obtain ⟨m0, m1, m2, m3⟩ := hC.four hjn
                have hjI : (j : Int) < (n : Int) := by omega
                have cv : Hid _ := refValue_any (P j) wr
                have hv := vl_le (P j)
                have hb0 := byt_lt s (i + j)
                have hik : i + j < s.size := by omega
                obtain ⟨x0, x1⟩ := ws_le P s i j
                have hsu : Hid _ := ws_succ P s i j
                obtain ⟨q, hq⟩ : ∃ q, i + j = q := ⟨_, rfl⟩
                have hqI : (i : Int) + (j : Int) = (q : Int) := by omega
                rw [hq] at hik hb0 hsu
                have hwq : IntKind.i64.wrap (q : Int) = (q : Int) := by rw [IntKind.wrap_i64]; omega
                have hwr : IntKind.i64.wrap ((i : Int) + (j : Int)) = (q : Int) := by rw [hqI]; exact hwq
                have hi1 : (q : Int) < (s.size : Int) := by omega
                have hidx := idx_str s q hik
                obtain ⟨p, hp⟩ : ∃ p : Int, ((vl (P j) : Nat) : Int) = p := ⟨_, rfl⟩
                have hp0 : 0 ≤ p := by omega
                have hp1 : p ≤ 256 := by omega
                rw [hp] at cv hsu
                obtain ⟨y, hy⟩ : ∃ y : Int, ((byt s q : Nat) : Int) = y := ⟨_, rfl⟩
                have hy0 : 0 ≤ y := by omega
                have hy1 : y ≤ 255 := by omega
                rw [hy] at hsu hidx
                generalize hG : ws P s i j = G at *
                clear hG hC hp hy hq hv hb0
                by_cases hgt : y + 1 < p
                · obtain ⟨d, hd⟩ : ∃ d, p - (y + 1) = d := ⟨_, rfl⟩
                  have hd0 : 0 ≤ d := by omega
                  have hd1 : d ≤ 256 := by omega
                  obtain ⟨t0, t1, t2, t3⟩ := term_le hp0 hp1 hd0 hd1
                  have HT : Hid (ws P s i (j + 1) = G + p * d * d) := by show _ = _; rw [hsu.out, wt_hi hd.symm]
                  clear hsu
                  go_wp2_with fail
                  refine Calls.mono (Hid.out cv) ?_; rintro e w5 ⟨rfl, b5⟩
                  have HB5 : Hid (Below wo.heap.size wo w5) := HB.out.trans (b5.mono HB.out.size)
                  clear b5 cv q0 q1 m0 m1 m2 m3
                  go_wp2_with fail
                  go_roundw
                  case rel => exact ⟨HB5.out, j + 1, by omega, by go_num, by rw [HT.out]⟩
                  case measure => simp [intOf]; omega
                · obtain ⟨d, hd⟩ : ∃ d, (y + 1) - p = d := ⟨_, rfl⟩
                  have hd0 : 0 ≤ d := by omega
                  have hd1 : d ≤ 256 := by omega
                  have hgt2 : p ≤ y + 1 := by omega
                  obtain ⟨t0, t1, t2, t3⟩ := term_le hp0 hp1 hd0 hd1
                  have HT : Hid (ws P s i (j + 1) = G + p * d * d) := by show _ = _; rw [hsu.out, wt_lo hd.symm]
                  clear hsu
                  go_wp2_with fail
                  refine Calls.mono (Hid.out cv) ?_; rintro e w5 ⟨rfl, b5⟩
                  have HB5 : Hid (Below wo.heap.size wo w5) := HB.out.trans (b5.mono HB.out.size)
                  clear b5 cv q0 q1 m0 m1 m2 m3
                  go_wp2_with fail
                  go_roundw
                  case rel => exact ⟨HB5.out, j + 1, by omega, by go_num, by rw [HT.out]⟩
                  case measure => simp [intOf]; omega
              · obtain rfl : j = n := by omega
                have Hown2 : Hid (Own wr w3.heap.size u10 i (fun i => ws P s i j)) := owns_below Hown.out HB.out (Nat.le_refl _)
                have Hbel2 : Hid (Below w3.heap.size w3 wr) := Hbel.out.trans (HB.out.mono ssr)
                have hown := Hown2.out
                have hsz2 := Hbel2.out.size
                unfold Own at hown
                go_wp2_with (at_builtin; refine wpList_append_own _ rfl _ _ 33 rfl w3.heap.size 22 i0 (.int .u64 0) 1 8 Tryd.underlying33 hi hz0 hz1 hz2 rfl (by decide) _ _ _ rfl (hown.alloc _) ⟨wr.heap.size, 0, none⟩ 1 1 [.int .u64 (ws P s i j)] rfl rfl ?c1 ?c2 ?c3 ?c4 ?c5 ?_)
                case c1 =>
                  intro j' u hj'
                  match j', hj' with
                  | 0, hj' => simp at hj'; subst hj'; simp [Addr.add]
                case c2 => intro u hu; simp at hu; subst hu; rfl
                case c3 => unfold maxLen; omega
                case c4 => omega
                case c5 => simp; omega
                · intro v' w6 hown' hgrow _
                  have R := own_step rfl hsz2 Hbel2.out Hown2.out hown' hgrow
                  have HR : Hid _ := R
                  clear R hown' hgrow hown Hown Hbel Hown2 Hbel2
                  go_wp2_with fail
                  go_roundw
                  case rel => exact ⟨i + 1, by omega, by go_num, HR.out.1, HR.out.2⟩
                  case measure => simp [intOf]; omega
          · obtain rfl : i = s.size + 1 - n := by omega
            have hltI : ¬ (((s.size + 1 - n : Nat) : Int) + (n : Int) ≤ (s.size : Int)) := by omega
            have HE : Hid _ := own_lies Hown.out
            have B5 : Hid (Below w.heap.size w wr) := B3.out.trans (Hbel.out.mono B3.out.size)
            obtain ⟨ro, rc, re, rl⟩ := HE.out
            subst re
            have HRl : Hid _ := rl
            obtain ⟨q0, q1⟩ := HCr.out
            clear rl Hown HE
            go_wp2_with fail
            refine Calls.mono (cn.out _) ?_; rintro e w' ⟨rfl, hw'⟩; subst w'
            go_wp2_with fail
            refine bodyPost_ret (results_tmp3 rfl _ _ _) rfl ?_
            exact ⟨ro, rc, rfl, HRl.out, B5.out⟩

end Cls
end Go.Proofs.YtbojmkkpgglhhaaDoor
