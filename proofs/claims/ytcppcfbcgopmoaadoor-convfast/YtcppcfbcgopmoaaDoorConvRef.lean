/- Contracts of the document's own Product, Slide, Correlate, of any rows. -/
import Derived.Test.YtcppcfbcgopmoaaDoorConvChk
import Derived.Test.YtcppcfbcgopmoaaDoorConvCor
import Derived.Deep.QuietTactic
import Derived.BigQuiet
namespace Go.Proofs.YtcppcfbcgopmoaaDoor
open Go.RowKit Res

theorem Own.told {w w' : World} {N : Nat} {F : Nat → Int} {v : Value} {M : Nat} (hM : M = N) (h : Own w' w.heap.size v N F) (hb : Below w.heap.size w w') : ∃ ao cap, v = .slice ao N cap ∧ Told w M F 0 (.returned (.tuple #[v, .int .i64 0])) w' := by
  subst hM
  by_cases h1 : 1 ≤ M
  · obtain ⟨g, cap, rfl, _, _, hf, _⟩ := own_fam h h1
    exact ⟨_, _, rfl, Told.row rfl hf hb⟩
  · obtain ⟨ao, c, rfl⟩ := own_slice h
    exact ⟨_, _, rfl, _, _, rfl, fun h => absurd h h1, hb⟩
theorem Own.drewN {w : World} {B j : Nat} {v : Value} {D : Nat → Int} (h : Own w B v j D) (q : Nat) : Own (w.drewN q) B v j D := h

theorem cr_part {n : Nat} {p t : Nat → Int} (hp : ∀ i, 0 ≤ p i) (ht : ∀ i, 0 ≤ t i) (i j : Nat) (hj : j ≤ n) : sm j (fun j => p j * t (i + j)) ≤ cr n p t i := sm_mono hj (fun _ _ => Int.mul_nonneg (hp _) (ht _))

set_option maxHeartbeats 1000000 in
theorem slide_any (pb po tb tof n m ca cb : Nat) (h1 : 1 ≤ n) (h2 : n ≤ m) (hm : m ≤ 1152921504606) (P T : Nat → Int) (hP0 : ∀ t, 0 ≤ P t) (hT0 : ∀ t, 0 ≤ T t) (hfit : ∀ i, i + n ≤ m → cr n P T i ≤ 18446744073709551615) (w : World) (fp : Fam w pb po n P) (ft : Fam w tb tof m T) :
    Calls Tryd.prog 31 #[.slice (some ⟨pb, po, none⟩) n ca, .slice (some ⟨tb, tof, none⟩) m cb] w fun e w' => ∃ v, e = .returned v ∧ Own w' w.heap.size v (m + 1 - n) (cr n P T) ∧ Below w.heap.size w w' := by
  obtain ⟨i0, hi, hz0, hz1, hz2⟩ := info_parts infoU
  have hpl : pb < w.heap.size := fp.lt (by omega)
  have htl : tb < w.heap.size := ft.lt (by omega)
  have Fp : Hid (Fam w pb po n P) := fp
  have Ft : Hid (Fam w tb tof m T) := ft
  have Hfit : Hid (∀ i j, i + n ≤ m → j < n → sm j (fun j => P j * T (i + j)) + P j * T (i + j) ≤ 18446744073709551615) := fun i j h hj => Int.le_trans (cr_part hP0 hT0 i (j + 1) hj) (hfit i h)
  clear fp ft hfit
  go_enter Tryd.func31, Tryd.ntmps31
  go_wp2_with fail
  go_loopw [5, 6] (fun vo vi wr => ∃ i : Nat, i ≤ m + 1 - n ∧ vi = .int .i64 i ∧ Own wr w.heap.size vo i (cr n P T) ∧ Below w.heap.size w wr) (fun _ vi _ => m + 1 - n - (intOf vi).toNat)
  case atStart => exact ⟨0, Nat.zero_le _, rfl, own_nil _ _ _, Below.refl _ _⟩
  case round =>
    obtain ⟨i, hile, rfl, hown, hbel⟩ := hrel
    have Hown : Hid (Own wr w.heap.size _ i (cr n P T)) := hown
    have Hbel : Hid (Below w.heap.size w wr) := hbel
    have Fp2 : Hid (Fam wr pb po n P) := Fp.out.below hbel hpl
    have Ft2 : Hid (Fam wr tb tof m T) := Ft.out.below hbel htl
    have hsz : w.heap.size ≤ wr.heap.size := hbel.size
    clear hown hbel
    by_cases hlt : i + n ≤ m
    · have hltI : (i : Int) + (n : Int) ≤ (m : Int) := by omega
      obtain ⟨ps, hps⟩ : ∃ ps : Nat → Int, ∀ j, ps j = sm j (fun j => P j * T (i + j)) := ⟨_, fun _ => rfl⟩
      have hps1 : Hid (∀ j, ps j + P j * T (i + j) = ps (j + 1)) := fun j => by rw [hps, hps]; rfl
      have hps0 : Hid (ps 0 = 0) := by show ps 0 = 0; rw [hps]; rfl
      have hpsn : Hid (ps n = cr n P T i) := hps n
      have hpsb : Hid (∀ j, 0 ≤ ps j) := fun j => by rw [hps]; exact sm_nonneg fun _ _ => Int.mul_nonneg (hP0 _) (hT0 _)
      have hpsM : Hid (∀ j, j < n → ps j + P j * T (i + j) ≤ 18446744073709551615) := fun j hj => by rw [hps]; exact Hfit.out i j hlt hj
      clear hps
      go_wp2_with fail
      rename World => wo
      go_loopw [7, 8] (fun vx vj wr => (∃ q, wr = wo.drewN q) ∧ ∃ j : Nat, j ≤ n ∧ vj = .int .i64 j ∧ vx = .int .u64 (ps j)) (fun _ vj _ => n - (intOf vj).toNat)
      case atStart => exact ⟨⟨0, rfl⟩, 0, Nat.zero_le _, rfl, by rw [hps0.out]⟩
      case round =>
        obtain ⟨⟨q, hwx⟩, j, hjle, rfl, rfl⟩ := hrel
        have HW : Hid (wr = wo.drewN q) := hwx
        by_cases hlt2 : j < n
        · have hcP : wr.cell? ⟨pb, po + j, none⟩ = some (.int .u64 (P j)) := by rw [hwx]; exact Fp2.out j hlt2
          have hcT : wr.cell? ⟨tb, tof + (i + j), none⟩ = some (.int .u64 (T (i + j))) := by rw [hwx]; exact Ft2.out (i + j) (by omega)
          obtain ⟨V, hV⟩ : ∃ V, P j * T (i + j) = V := ⟨_, rfl⟩
          have hV0 : 0 ≤ V := by rw [← hV]; exact Int.mul_nonneg (hP0 _) (hT0 _)
          have hVM : ps j + V ≤ 18446744073709551615 := by rw [← hV]; exact hpsM.out j hlt2
          have hp0 := hpsb.out j
          have hst : Hid (ps j + V = ps (j + 1)) := by show _ = _; rw [← hV]; exact hps1.out j
          have hjI : (j : Int) < (n : Int) := by omega
          have hijI : (i : Int) + (j : Int) < (m : Int) := by omega
          clear hwx Hown Hbel hpsM hps1
          go_wp2_with fail
          go_quiet (fail)
          go_wp2_with fail
          go_roundw
          case rel =>
            refine ⟨⟨q + nq, ?_⟩, j + 1, by omega, by go_num, by rw [hst.out]⟩
            rw [HW.out]
            exact World.drewN_drewN _ _ _
          case measure => simp [intOf]; omega
        · obtain rfl : j = n := by omega
          have Hown2 : Hid (Own wr w.heap.size u5 i (cr j P T)) := by show Own _ _ _ _ _; rw [hwx]; exact Own.drewN Hown.out q
          have Hbel2 : Hid (Below w.heap.size w wr) := by show Below _ _ _; rw [hwx]; exact below_drewN Hbel.out q
          have hown := Hown2.out
          have hsz2 := Hbel2.out.size
          unfold Own at hown
          clear hwx
          go_wp2_with (at_builtin; refine wpList_append_own _ rfl _ _ 22 rfl w.heap.size 26 i0 (.int .u64 0) 1 8 Tryd.underlying22 hi hz0 hz1 hz2 rfl (by decide) _ _ _ rfl (hown.alloc _) ⟨wr.heap.size, 0, none⟩ 1 1 [.int .u64 (ps j)] rfl rfl ?c1 ?c2 ?c3 ?c4 ?c5 ?_)
          case c1 =>
            intro j' u hj'
            match j', hj' with
            | 0, hj' => simp at hj'; subst hj'; simp [Addr.add]
          case c2 => intro u hu; simp at hu; subst hu; rfl
          case c3 => unfold maxLen; omega
          case c4 => omega
          case c5 => simp; omega
          · intro v' w1 hown' hgrow _
            have R := own_step hpsn.out hsz2 Hbel2.out Hown2.out hown' hgrow
            have HR : Hid _ := R
            clear R hown' hgrow hown Hown Hbel Hown2 Hbel2
            go_wp2_with fail
            go_roundw
            case rel => exact ⟨i + 1, by omega, by go_num, HR.out.1, HR.out.2⟩
            case measure => simp [intOf]; omega
    · obtain rfl : i = m + 1 - n := by omega
      have hltI : ¬ (((m + 1 - n : Nat) : Int) + (n : Int) ≤ (m : Int)) := by omega
      go_wp2_with fail
      go_ret
      exact ⟨_, rfl, Hown.out, Hbel.out⟩

set_option maxHeartbeats 1000000 in
theorem refCorrelate_any (ao bo : Option Addr) (n m ca cb : Nat) (hn : n ≤ 1152921504606) (hm : m ≤ 1152921504606) (A B : Nat → Int) (hA0 : ∀ t, 0 ≤ A t) (hB0 : ∀ t, 0 ≤ B t) (hA : ∀ t, A t ≤ 18446744073709551615) (hB : ∀ t, B t ≤ 18446744073709551615) (w : World) (la : Lies w ao n A) (lb : Lies w bo m B) :
    Calls Tryd.prog 21 #[.slice ao n ca, .slice bo m cb] w fun e w' => Told w (kl n m A B) (cr n A B) (kc n m A B) e w' := by
  by_cases hno : n = 0 ∨ m < n
  · rw [kc_none hno]
    have hln := kl_none (A := A) (B := B) hno
    have HL : Hid _ := hln
    clear hln la lb
    by_cases hn0 : n = 0
    · subst hn0
      clear hno
      go_enter Tryd.func21, Tryd.ntmps21
      go_wp2_with fail
      go_ret2
      exact Told.nil HL.out (Below.refl _ _)
    · have hd : ((n : Int) == 0) = false := beq_eq_false_iff_ne.2 (by omega)
      have hd2 : (m : Int) < (n : Int) := by omega
      clear hno
      go_enter Tryd.func21, Tryd.ntmps21
      go_wp2_with fail
      go_ret2
      exact Told.nil HL.out (Below.refl _ _)
  have h1 : 1 ≤ n := by omega
  have h2 : 1 ≤ m := by omega
  have c1 : Hid _ := check_any ao bo n m ca cb h1 h2 (by omega) (by omega) A B hA hB w la lb
  rw [kc_some hno]
  have hd : ((n : Int) == 0) = false := beq_eq_false_iff_ne.2 (by omega)
  have hd2 : (n : Int) ≤ (m : Int) := by omega
  by_cases hok : er n m (gr n A) (gr m B) = 0
  · have hfit : ∀ i, i + n ≤ m → cr n A B i ≤ 18446744073709551615 := fun i hi => by
      rw [← turn_cv n m A B h1 i hi]
      exact cv_fits (fun t => hA0 _) hB0 (by rw [gr_rev n A hA0]; exact hok) _
    obtain ⟨pb, po, rfl, fp⟩ := la h1
    obtain ⟨tb, tof, rfl, ft⟩ := lb h2
    have c2 : Hid _ := slide_any pb po tb tof n m ca cb h1 (by omega) hm A B hA0 hB0 hfit w fp ft
    have HL : Hid _ := kl_ok hno hok
    rw [hok] at c1 ⊢
    clear la lb hok hno hA hB hA0 hB0 hfit fp ft
    go_enter Tryd.func21, Tryd.ntmps21
    go_wp2_with fail
    refine Calls.mono (Hid.out c1) ?_; rintro e w' ⟨rfl, hw'⟩; subst w'
    go_wp2_with fail
    refine Calls.mono (Hid.out c2) ?_; rintro e w2 ⟨v, rfl, h3, h4⟩
    obtain ⟨ao, cap, rfl, ht⟩ := Own.told HL.out h3 h4
    have HT : Hid _ := ht
    clear h3 h4 ht
    go_wp2_with fail
    go_ret2
    exact HT.out
  · have HL : Hid _ := kl_no hno hok
    have hok' : (er n m (gr n A) (gr m B) == 0) = false := beq_eq_false_iff_ne.2 hok
    clear la lb hno hA hB hA0 hB0
    generalize er n m (gr n A) (gr m B) = E at *
    go_enter Tryd.func21, Tryd.ntmps21
    go_wp2_with fail
    refine Calls.mono (Hid.out c1) ?_; rintro e w' ⟨rfl, hw'⟩; subst w'
    go_wp2_with fail
    go_ret2
    exact Told.nil HL.out (Below.refl _ _)

set_option maxHeartbeats 2000000 in
theorem refProduct_any (ao bo : Option Addr) (n m ca cb : Nat) (hn : n ≤ 1152921504606) (hm : m ≤ 1152921504606) (A B : Nat → Int) (hA0 : ∀ t, 0 ≤ A t) (hB0 : ∀ t, 0 ≤ B t) (hA : ∀ t, A t ≤ 18446744073709551615) (hB : ∀ t, B t ≤ 18446744073709551615) (w : World) (la : Lies w ao n A) (lb : Lies w bo m B) :
    Calls Tryd.prog 17 #[.slice ao n ca, .slice bo m cb] w fun e w' => Told w (ln n m A B) (cv n m A B) (ec n m A B) e w' := by
  by_cases hno : n = 0 ∨ m = 0
  · rw [ec_none hno]
    have hln := ln_none (A := A) (B := B) hno
    have HL : Hid _ := hln
    clear hln la lb
    by_cases hn0 : n = 0
    · subst hn0
      clear hno
      go_enter Tryd.func17, Tryd.ntmps17
      go_wp2_with fail
      go_ret2
      exact Told.nil HL.out (Below.refl _ _)
    · obtain rfl : m = 0 := by omega
      have hd : ((n : Int) == 0) = false := beq_eq_false_iff_ne.2 (by omega)
      clear hno
      go_enter Tryd.func17, Tryd.ntmps17
      go_wp2_with fail
      go_ret2
      exact Told.nil HL.out (Below.refl _ _)
  have h1 : 1 ≤ n := by omega
  have h2 : 1 ≤ m := by omega
  have c1 : Hid _ := check_any ao bo n m ca cb h1 h2 (by omega) (by omega) A B hA hB w la lb
  rw [ec_some hno]
  have hd : ((n : Int) == 0) = false := beq_eq_false_iff_ne.2 (by omega)
  have hd2 : ((m : Int) == 0) = false := beq_eq_false_iff_ne.2 (by omega)
  by_cases hok : er n m (gr n A) (gr m B) = 0
  · have hfit := cv_fits hA0 hB0 hok
    have hle := (er_zero hok).1
    obtain ⟨pb, po, rfl, fp⟩ := la h1
    obtain ⟨tb, tof, rfl, ft⟩ := lb h2
    have HL : Hid _ := ln_ok hno hok
    obtain ⟨N, hN⟩ : ∃ N, n + m - 1 = N := ⟨_, rfl⟩
    rw [hN] at HL
    rw [hok] at c1 ⊢
    obtain ⟨i0, hi, hz0, hz1, hz2⟩ := info_parts infoU
    have hpl : pb < w.heap.size := fp.lt (by omega)
    have htl : tb < w.heap.size := ft.lt (by omega)
    have Fp : Hid (Fam w pb po n A) := fp
    have Ft : Hid (Fam w tb tof m B) := ft
    have Hfit : Hid (∀ i j, j < n → sm j (tm m A B i) + tm m A B i j ≤ 18446744073709551615) := fun i j hj => Int.le_trans (part_le (n := n) (m := m) (i := j + 1) hj hA0 hB0 i) (hfit i)
    have hNI : (n : Int) + (m : Int) - 1 = (N : Int) := by omega
    have hN' : N + 1 = n + m := by omega
    clear fp ft hfit hok hno la lb hA hB hN
    go_enter Tryd.func17, Tryd.ntmps17
    go_wp2_with fail
    refine Calls.mono (Hid.out c1) ?_; rintro e w' ⟨rfl, hw'⟩; subst w'
    go_wp2_with fail
    clear c1
    go_loopw [7, 8] (fun vo vi wr => ∃ i : Nat, i ≤ N ∧ vi = .int .i64 i ∧ Own wr w.heap.size vo i (cv n m A B) ∧ Below w.heap.size w wr) (fun _ vi _ => N - (intOf vi).toNat)
    case atStart => exact ⟨0, Nat.zero_le _, rfl, own_nil _ _ _, Below.refl _ _⟩
    case round =>
      obtain ⟨i, hile, rfl, hown, hbel⟩ := hrel
      have Hown : Hid (Own wr w.heap.size u7 i (cv n m A B)) := hown
      have Hbel : Hid (Below w.heap.size w wr) := hbel
      have Fp2 : Hid (Fam wr pb po n A) := Fp.out.below hbel hpl
      have Ft2 : Hid (Fam wr tb tof m B) := Ft.out.below hbel htl
      have hsz : w.heap.size ≤ wr.heap.size := hbel.size
      clear hown hbel
      by_cases hlt : i < N
      · have hltI : (i : Int) < (N : Int) := by omega
        obtain ⟨ps, hps⟩ : ∃ ps : Nat → Int, ∀ j, ps j = sm j (tm m A B i) := ⟨_, fun _ => rfl⟩
        have hps1 : Hid (∀ j, ps j + tm m A B i j = ps (j + 1)) := fun j => by rw [hps, hps]; rfl
        have hps0 : Hid (ps 0 = 0) := by show ps 0 = 0; rw [hps]; rfl
        have hpsn : Hid (ps n = cv n m A B i) := by show _ = _; rw [hps, cv_row]
        have hpsb : Hid (∀ j, 0 ≤ ps j) := fun j => by rw [hps]; exact sm_nonneg fun _ _ => tm_nonneg hA0 hB0 _ _
        have hpsM : Hid (∀ j, j < n → ps j + tm m A B i j ≤ 18446744073709551615) := fun j hj => by rw [hps]; exact Hfit.out i j hj
        clear hps
        go_wp2_with fail
        rename World => wo
        go_loopw [9, 10] (fun vx vj wr => (∃ q, wr = wo.drewN q) ∧ ∃ j : Nat, j ≤ n ∧ vj = .int .i64 j ∧ vx = .int .u64 (ps j)) (fun _ vj _ => n - (intOf vj).toNat)
        case atStart => exact ⟨⟨0, rfl⟩, 0, Nat.zero_le _, rfl, by rw [hps0.out]⟩
        case round =>
          obtain ⟨⟨q, hwx⟩, j, hjle, rfl, rfl⟩ := hrel
          have HW : Hid (wr = wo.drewN q) := hwx
          by_cases hlt2 : j < n
          · have hjI : (j : Int) < (n : Int) := by omega
            by_cases hin : j ≤ i ∧ i - j < m
            · obtain ⟨d, hd3⟩ : ∃ d, d = i - j := ⟨_, rfl⟩
              have hcP : wr.cell? ⟨pb, po + j, none⟩ = some (.int .u64 (A j)) := by rw [hwx]; exact Fp2.out j hlt2
              have hcT : wr.cell? ⟨tb, tof + d, none⟩ = some (.int .u64 (B d)) := by rw [hwx]; exact Ft2.out d (by omega)
              obtain ⟨V, hV⟩ : ∃ V, A j * B d = V := ⟨_, rfl⟩
              have htm : tm m A B i j = V := by unfold tm; rw [if_pos hin, ← hd3, hV]
              have hV0 : 0 ≤ V := by rw [← hV]; exact Int.mul_nonneg (hA0 _) (hB0 _)
              have hVM : ps j + V ≤ 18446744073709551615 := by rw [← htm]; exact hpsM.out j hlt2
              have hp0 := hpsb.out j
              have hst : Hid (ps j + V = ps (j + 1)) := by show _ = _; rw [← htm]; exact hps1.out j
              have hdI : (i : Int) - (j : Int) = (d : Int) := by omega
              have hdm : (d : Int) < (m : Int) := by omega
              clear hwx Hown Hbel hpsM hps1 htm hin hd3
              go_wp2_with fail
              go_quiet (fail)
              go_wp2_with fail
              go_roundw
              case rel =>
                refine ⟨⟨q + nq, ?_⟩, j + 1, by omega, by go_num, by rw [hst.out]⟩
                rw [HW.out]
                exact World.drewN_drewN _ _ _
              case measure => simp [intOf]; omega
            · have htm : tm m A B i j = 0 := by unfold tm; rw [if_neg hin]
              have hst : Hid (ps j = ps (j + 1)) := by show _ = _; have := hps1.out j; rw [htm] at this; omega
              by_cases hji : j ≤ i
              · have hdI : (m : Int) ≤ (i : Int) - (j : Int) := by omega
                have hd0 : (0 : Int) ≤ (i : Int) - (j : Int) := by omega
                clear hwx Hown Hbel hpsM hps1 htm hin
                go_wp2_with fail
                go_roundw
                case rel => exact ⟨⟨q, HW.out⟩, j + 1, by omega, by go_num, by rw [hst.out]⟩
                case measure => simp [intOf]; omega
              · have hd0 : (i : Int) - (j : Int) < (0 : Int) := by omega
                clear hwx Hown Hbel hpsM hps1 htm hin
                go_wp2_with fail
                go_roundw
                case rel => exact ⟨⟨q, HW.out⟩, j + 1, by omega, by go_num, by rw [hst.out]⟩
                case measure => simp [intOf]; omega
          · obtain rfl : j = n := by omega
            have Hown2 : Hid (Own wr w.heap.size u7 i (cv j m A B)) := by show Own _ _ _ _ _; rw [hwx]; exact Own.drewN Hown.out q
            have Hbel2 : Hid (Below w.heap.size w wr) := by show Below _ _ _; rw [hwx]; exact below_drewN Hbel.out q
            have hown := Hown2.out
            have hsz2 := Hbel2.out.size
            unfold Own at hown
            clear hwx
            go_wp2_with (at_builtin; refine wpList_append_own _ rfl _ _ 22 rfl w.heap.size 26 i0 (.int .u64 0) 1 8 Tryd.underlying22 hi hz0 hz1 hz2 rfl (by decide) _ _ _ rfl (hown.alloc _) ⟨wr.heap.size, 0, none⟩ 1 1 [.int .u64 (ps j)] rfl rfl ?c1 ?c2 ?c3 ?c4 ?c5 ?_)
            case c1 =>
              intro j' u hj'
              match j', hj' with
              | 0, hj' => simp at hj'; subst hj'; simp [Addr.add]
            case c2 => intro u hu; simp at hu; subst hu; rfl
            case c3 => unfold maxLen; omega
            case c4 => omega
            case c5 => simp; omega
            · intro v' w1 hown' hgrow _
              have R := own_step hpsn.out hsz2 Hbel2.out Hown2.out hown' hgrow
              have HR : Hid _ := R
              clear R hown' hgrow hown Hown Hbel Hown2 Hbel2
              go_wp2_with fail
              go_roundw
              case rel => exact ⟨i + 1, by omega, by go_num, HR.out.1, HR.out.2⟩
              case measure => simp [intOf]; omega
      · obtain rfl : i = N := by omega
        have hltI : ¬ ((i : Int) < (i : Int)) := by omega
        obtain ⟨ao, cap, rfl, ht⟩ := Own.told HL.out Hown.out Hbel.out
        have HT : Hid _ := ht
        clear ht
        go_wp2_with fail
        go_ret2
        exact HT.out
  · have HL : Hid _ := ln_no hno hok
    have hok' : (er n m (gr n A) (gr m B) == 0) = false := beq_eq_false_iff_ne.2 hok
    clear la lb hno hA hB hA0 hB0
    generalize er n m (gr n A) (gr m B) = E at *
    go_enter Tryd.func17, Tryd.ntmps17
    go_wp2_with fail
    refine Calls.mono (Hid.out c1) ?_; rintro e w' ⟨rfl, hw'⟩; subst w'
    go_wp2_with fail
    go_ret2
    exact Told.nil HL.out (Below.refl _ _)
end Go.Proofs.YtcppcfbcgopmoaaDoor
