/- Contracts of conv.Size, conv.Greatest and of the document's own. Contracts of conv.errorOf and of the document's own Check. Contract of the document's own Check. Contracts of conv.productOf: of the row, and of the row turned; and of the two closures. Contract of conv.School, of any rows. Contracts of slices.Clone (of a row that is not empty) and of conv.Correlate, of any rows. Contracts of conv.widened and of conv.Fast, of any rows. Contracts of the document's own Product, Slide, Correlate, of any rows. -/
import Derived.Test.YtdffofpoilfhiaaDoorMathA
import Derived.Test.YtdffofpoilfhiaaDoorCrtA
import Derived.Test.YtdffofpoilfhiaaDoorNttLog
import Derived.Test.YtdffofpoilfhiaaDoorNttFill
import Derived.Test.YtdffofpoilfhiaaDoorMem
import Derived.Test.YtdffofpoilfhiaaDoorCrtBits
import Derived.Test.YtdffofpoilfhiaaDoorNttA
import Derived.Lib.LazyBuf
import Derived.Laws.CopyOwn
import Derived.Deep.QuietTactic
import Derived.BigQuiet

namespace Go.Proofs.YtdffofpoilfhiaaDoor
open Go.RowKit Res

set_option maxHeartbeats 400000 in
theorem greatest_any (ao : Option Addr) (n c : Nat) (hn : n ≤ 1152921504606846976) (L : Nat → Int) (w : World) (hl : Lies w ao n L) :
    Calls Tryd.prog 41 #[.slice ao n c] w fun e w' => e = .returned (.int .u64 (gr n L)) ∧ w' = w := by
  have HL : Hid (Lies w ao n L) := hl
  clear hl
  have hst : Hid (∀ i, (if gr i L < L i then L i else gr i L) = gr (i + 1) L) := fun i => rfl
  have h00 : Hid (gr 0 L = 0) := rfl
  generalize hG : (fun i => gr i L) = G at *
  have hGe : ∀ i, gr i L = G i := fun i => by rw [← hG]
  simp only [hGe] at hst h00 ⊢
  clear hG hGe
  go_enter Tryd.func41, Tryd.ntmps41
  go_wp2_with fail
  go_loop [3, 8] (fun vg vi => ∃ i : Nat, i ≤ n ∧ vi = .int .i64 i ∧ vg = .int .u64 (G i)) (fun _ vi => n - (intOf vi).toNat)
  case atStart => exact ⟨0, Nat.zero_le _, rfl, by rw [h00.out]⟩
  case round =>
    obtain ⟨i, hi, rfl, rfl⟩ := hrel
    by_cases hlt : i < n
    · obtain ⟨b, o, rfl, hf⟩ := HL.out (by omega)
      have hc := hf i hlt
      clear hf
      go_wp2_with fail
      go_round
      case rel => exact ⟨i + 1, by omega, by go_num, by rw [hst.out]⟩
      case measure => simp [intOf]; omega
    · obtain rfl : i = n := by omega
      go_wp2_with fail
      go_ret
      exact ⟨rfl, rfl⟩

set_option maxHeartbeats 400000 in
theorem refGreatest_any (ao : Option Addr) (n c : Nat) (hn : n ≤ 1152921504606846976) (L : Nat → Int) (w : World) (hl : Lies w ao n L) :
    Calls Tryd.prog 28 #[.slice ao n c] w fun e w' => e = .returned (.int .u64 (gr n L)) ∧ w' = w := by
  have HL : Hid (Lies w ao n L) := hl
  clear hl
  have hst : Hid (∀ i, gr i L < L i → L i = gr (i + 1) L) := fun i h => (gr_up h).symm
  have hst2 : Hid (∀ i, ¬ gr i L < L i → gr i L = gr (i + 1) L) := fun i h => (gr_stay h).symm
  have h00 : Hid (gr 0 L = 0) := rfl
  generalize hG : (fun i => gr i L) = G at *
  have hGe : ∀ i, gr i L = G i := fun i => by rw [← hG]
  simp only [hGe] at hst hst2 h00 ⊢
  clear hG hGe
  go_enter Tryd.func28, Tryd.ntmps28
  go_wp2_with fail
  go_loop [3, 4] (fun vg vi => ∃ i : Nat, i ≤ n ∧ vi = .int .i64 i ∧ vg = .int .u64 (G i)) (fun _ vi => n - (intOf vi).toNat)
  case atStart => exact ⟨0, Nat.zero_le _, rfl, by rw [h00.out]⟩
  case round =>
    obtain ⟨i, hi, rfl, rfl⟩ := hrel
    by_cases hlt : i < n
    · obtain ⟨b, o, rfl, hf⟩ := HL.out (by omega)
      have hc := hf i hlt
      clear hf
      by_cases hb : G i < L i
      · go_wp2_with fail
        go_round
        case rel => exact ⟨i + 1, by omega, by go_num, by rw [hst.out i hb]⟩
        case measure => simp [intOf]; omega
      · go_wp2_with fail
        go_round
        case rel => exact ⟨i + 1, by omega, by go_num, by rw [hst2.out i (by omega)]⟩
        case measure => simp [intOf]; omega
    · obtain rfl : i = n := by omega
      go_wp2_with fail
      go_ret
      exact ⟨rfl, rfl⟩

end Go.Proofs.YtdffofpoilfhiaaDoor

namespace Go.Proofs.YtdffofpoilfhiaaDoor
open Go.RowKit Res

theorem Lies.drewN {w : World} {ao : Option Addr} {n : Nat} {L : Nat → Int} (h : Lies w ao n L) (q : Nat) : Lies (w.drewN q) ao n L := h

set_option maxHeartbeats 1000000 in
theorem errorOf_le (ao bo : Option Addr) (n m ca cb : Nat) (h1 : 1 ≤ n) (hnm : n ≤ m) (hlong : ¬ 4097 < n + m) (X Y : Int) (hX0 : 0 ≤ X) (hY0 : 0 ≤ Y) (hX1 : X ≤ 18446744073709551615) (hY1 : Y ≤ 18446744073709551615) (w : World)
    (c1 : Hid (Calls Tryd.prog 41 #[.slice ao n ca] w fun e w' => e = .returned (.int .u64 X) ∧ w' = w)) (c2 : Hid (Calls Tryd.prog 41 #[.slice bo m cb] w fun e w' => e = .returned (.int .u64 Y) ∧ w' = w)) :
    Calls Tryd.prog 35 #[.slice ao n ca, .slice bo m cb] w fun e w' => e = .returned (.int .i64 (er n m X Y)) ∧ w' = w := by
  have hk : min n m = n := by omega
  obtain ⟨H, hH⟩ : ∃ H, H = X * Y / 18446744073709551616 := ⟨_, rfl⟩
  obtain ⟨l, hl⟩ : ∃ l, l = X * Y % 18446744073709551616 := ⟨_, rfl⟩
  obtain ⟨O, hO⟩ : ∃ O, O = l * (n : Int) / 18446744073709551616 := ⟨_, rfl⟩
  obtain ⟨p, hp⟩ : ∃ p, p = l * (n : Int) % 18446744073709551616 := ⟨_, rfl⟩
  have c3 : Hid _ := mul64_any X Y hX0 hY0 (by omega) (by omega) w
  rw [← hH, ← hl] at c3
  have hl0 : 0 ≤ l := by omega
  have hl1 : l < 18446744073709551616 := by omega
  have c4 : Hid _ := mul64_any l n hl0 (by omega) hl1 (by omega) w
  rw [← hO, ← hp] at c4
  have hiff := halves_big (P := X * Y) (k := (n : Int)) (Int.mul_nonneg hX0 hY0) (by omega)
  rw [← hH, ← hl, ← hO] at hiff
  have hlong' : (n : Int) + (m : Int) ≤ 4097 := by omega
  have hz : (n : Int) ≤ (m : Int) := by omega
  by_cases hbig : 18446744073709551616 ≤ X * Y * ((min n m : Nat) : Int)
  · rw [er_big hlong hbig]
    rw [hk] at hbig
    clear hH hl hO hp hk
    by_cases hH0 : H = 0
    · have hO0 : O ≠ 0 := fun e => hiff.1 ⟨hH0, e⟩ hbig
      clear hiff hbig
      subst hH0
      go_enter Tryd.func35, Tryd.ntmps35
      go_wp2_with fail
      refine Calls.mono (Hid.out c1) ?_; rintro e w' ⟨rfl, hw'⟩; subst w'
      go_wp2_with fail
      refine Calls.mono (Hid.out c2) ?_; rintro e w' ⟨rfl, hw'⟩; subst w'
      go_wp2_with fail
      refine Calls.mono (Hid.out c3) ?_; rintro e w' ⟨rfl, hw'⟩; subst w'
      go_wp2_with fail
      refine Calls.mono (Hid.out c4) ?_; rintro e w' ⟨rfl, hw'⟩; subst w'
      go_wp2_with fail
      go_ret
      exact ⟨rfl, rfl⟩
    · clear hiff hbig
      go_enter Tryd.func35, Tryd.ntmps35
      go_wp2_with fail
      refine Calls.mono (Hid.out c1) ?_; rintro e w' ⟨rfl, hw'⟩; subst w'
      go_wp2_with fail
      refine Calls.mono (Hid.out c2) ?_; rintro e w' ⟨rfl, hw'⟩; subst w'
      go_wp2_with fail
      refine Calls.mono (Hid.out c3) ?_; rintro e w' ⟨rfl, hw'⟩; subst w'
      go_wp2_with fail
      refine Calls.mono (Hid.out c4) ?_; rintro e w' ⟨rfl, hw'⟩; subst w'
      go_wp2_with fail
      go_ret
      exact ⟨rfl, rfl⟩
  · rw [er_ok hlong hbig]
    rw [hk] at hbig
    obtain ⟨hH0, hO0⟩ := hiff.2 hbig
    clear hH hl hO hp hk
    clear hiff hbig
    subst hH0 hO0
    go_enter Tryd.func35, Tryd.ntmps35
    go_wp2_with fail
    refine Calls.mono (Hid.out c1) ?_; rintro e w' ⟨rfl, hw'⟩; subst w'
    go_wp2_with fail
    refine Calls.mono (Hid.out c2) ?_; rintro e w' ⟨rfl, hw'⟩; subst w'
    go_wp2_with fail
    refine Calls.mono (Hid.out c3) ?_; rintro e w' ⟨rfl, hw'⟩; subst w'
    go_wp2_with fail
    refine Calls.mono (Hid.out c4) ?_; rintro e w' ⟨rfl, hw'⟩; subst w'
    go_wp2_with fail
    go_ret
    exact ⟨rfl, rfl⟩

set_option maxHeartbeats 1000000 in
theorem errorOf_gt (ao bo : Option Addr) (n m ca cb : Nat) (h1 : 1 ≤ m) (hnm : m < n) (hlong : ¬ 4097 < n + m) (X Y : Int) (hX0 : 0 ≤ X) (hY0 : 0 ≤ Y) (hX1 : X ≤ 18446744073709551615) (hY1 : Y ≤ 18446744073709551615) (w : World)
    (c1 : Hid (Calls Tryd.prog 41 #[.slice ao n ca] w fun e w' => e = .returned (.int .u64 X) ∧ w' = w)) (c2 : Hid (Calls Tryd.prog 41 #[.slice bo m cb] w fun e w' => e = .returned (.int .u64 Y) ∧ w' = w)) :
    Calls Tryd.prog 35 #[.slice ao n ca, .slice bo m cb] w fun e w' => e = .returned (.int .i64 (er n m X Y)) ∧ w' = w := by
  have hk : min n m = m := by omega
  obtain ⟨H, hH⟩ : ∃ H, H = X * Y / 18446744073709551616 := ⟨_, rfl⟩
  obtain ⟨l, hl⟩ : ∃ l, l = X * Y % 18446744073709551616 := ⟨_, rfl⟩
  obtain ⟨O, hO⟩ : ∃ O, O = l * (m : Int) / 18446744073709551616 := ⟨_, rfl⟩
  obtain ⟨p, hp⟩ : ∃ p, p = l * (m : Int) % 18446744073709551616 := ⟨_, rfl⟩
  have c3 : Hid _ := mul64_any X Y hX0 hY0 (by omega) (by omega) w
  rw [← hH, ← hl] at c3
  have hl0 : 0 ≤ l := by omega
  have hl1 : l < 18446744073709551616 := by omega
  have c4 : Hid _ := mul64_any l m hl0 (by omega) hl1 (by omega) w
  rw [← hO, ← hp] at c4
  have hiff := halves_big (P := X * Y) (k := (m : Int)) (Int.mul_nonneg hX0 hY0) (by omega)
  rw [← hH, ← hl, ← hO] at hiff
  have hlong' : (n : Int) + (m : Int) ≤ 4097 := by omega
  have hz : (m : Int) < (n : Int) := by omega
  by_cases hbig : 18446744073709551616 ≤ X * Y * ((min n m : Nat) : Int)
  · rw [er_big hlong hbig]
    rw [hk] at hbig
    clear hH hl hO hp hk
    by_cases hH0 : H = 0
    · have hO0 : O ≠ 0 := fun e => hiff.1 ⟨hH0, e⟩ hbig
      clear hiff hbig
      subst hH0
      go_enter Tryd.func35, Tryd.ntmps35
      go_wp2_with fail
      refine Calls.mono (Hid.out c1) ?_; rintro e w' ⟨rfl, hw'⟩; subst w'
      go_wp2_with fail
      refine Calls.mono (Hid.out c2) ?_; rintro e w' ⟨rfl, hw'⟩; subst w'
      go_wp2_with fail
      refine Calls.mono (Hid.out c3) ?_; rintro e w' ⟨rfl, hw'⟩; subst w'
      go_wp2_with fail
      refine Calls.mono (Hid.out c4) ?_; rintro e w' ⟨rfl, hw'⟩; subst w'
      go_wp2_with fail
      go_ret
      exact ⟨rfl, rfl⟩
    · clear hiff hbig
      go_enter Tryd.func35, Tryd.ntmps35
      go_wp2_with fail
      refine Calls.mono (Hid.out c1) ?_; rintro e w' ⟨rfl, hw'⟩; subst w'
      go_wp2_with fail
      refine Calls.mono (Hid.out c2) ?_; rintro e w' ⟨rfl, hw'⟩; subst w'
      go_wp2_with fail
      refine Calls.mono (Hid.out c3) ?_; rintro e w' ⟨rfl, hw'⟩; subst w'
      go_wp2_with fail
      refine Calls.mono (Hid.out c4) ?_; rintro e w' ⟨rfl, hw'⟩; subst w'
      go_wp2_with fail
      go_ret
      exact ⟨rfl, rfl⟩
  · rw [er_ok hlong hbig]
    rw [hk] at hbig
    obtain ⟨hH0, hO0⟩ := hiff.2 hbig
    clear hH hl hO hp hk
    clear hiff hbig
    subst hH0 hO0
    go_enter Tryd.func35, Tryd.ntmps35
    go_wp2_with fail
    refine Calls.mono (Hid.out c1) ?_; rintro e w' ⟨rfl, hw'⟩; subst w'
    go_wp2_with fail
    refine Calls.mono (Hid.out c2) ?_; rintro e w' ⟨rfl, hw'⟩; subst w'
    go_wp2_with fail
    refine Calls.mono (Hid.out c3) ?_; rintro e w' ⟨rfl, hw'⟩; subst w'
    go_wp2_with fail
    refine Calls.mono (Hid.out c4) ?_; rintro e w' ⟨rfl, hw'⟩; subst w'
    go_wp2_with fail
    go_ret
    exact ⟨rfl, rfl⟩

set_option maxHeartbeats 400000 in
theorem errorOf_any (ao bo : Option Addr) (n m ca cb : Nat) (h1 : 1 ≤ n) (h2 : 1 ≤ m) (hn : n ≤ 1152921504606846976) (hm : m ≤ 1152921504606846976) (A B : Nat → Int) (hA : ∀ t, A t ≤ 18446744073709551615) (hB : ∀ t, B t ≤ 18446744073709551615) (w : World) (la : Lies w ao n A) (lb : Lies w bo m B) :
    Calls Tryd.prog 35 #[.slice ao n ca, .slice bo m cb] w fun e w' => e = .returned (.int .i64 (er n m (gr n A) (gr m B))) ∧ w' = w := by
  by_cases hlong : 4097 < n + m
  · rw [er_long hlong]
    clear la lb
    have hi : (4097 : Int) < (n : Int) + (m : Int) := by omega
    go_enter Tryd.func35, Tryd.ntmps35
    go_wp2_with fail
    go_ret
    exact ⟨rfl, rfl⟩
  by_cases hnm : n ≤ m
  · exact errorOf_le ao bo n m ca cb h1 hnm hlong _ _ (gr_nonneg _ _) (gr_nonneg _ _) (gr_hi (by omega) hA n) (gr_hi (by omega) hB m) w (greatest_any ao n ca hn A w la) (greatest_any bo m cb hm B w lb)
  · exact errorOf_gt ao bo n m ca cb h2 (by omega) hlong _ _ (gr_nonneg _ _) (gr_nonneg _ _) (gr_hi (by omega) hA n) (gr_hi (by omega) hB m) w (greatest_any ao n ca hn A w la) (greatest_any bo m cb hm B w lb)

end Go.Proofs.YtdffofpoilfhiaaDoor

namespace Go.Proofs.YtdffofpoilfhiaaDoor
open Go.RowKit Res

end Go.Proofs.YtdffofpoilfhiaaDoor

namespace Go.Proofs.YtdffofpoilfhiaaDoor
open Go.RowKit Res

set_option maxHeartbeats 400000 in
theorem turned_any (j n c bx : Nat) (hj : j < n) (hn : n ≤ 1152921504606846976) (ao : Option Addr) (A : Nat → Int) (w : World) (hc : w.cell? ⟨bx, 0, none⟩ = some (.slice ao n c)) (la : Lies w ao n A) :
    Calls Tryd.prog 36 #[.int .i64 j, .pointer (some ⟨bx, 0, none⟩)] w fun e w' => e = .returned (.int .u64 (A (n - 1 - j))) ∧ w' = w := by
  obtain ⟨b, o, rfl, hf⟩ := la (by omega)
  obtain ⟨r, hr⟩ : ∃ r, r = n - 1 - j := ⟨_, rfl⟩
  have hcj := hf r (by omega)
  rw [← hr]
  have hrI : (n : Int) - 1 - (j : Int) = (r : Int) := by omega
  have hrn : r < n := by omega
  clear hf la hr
  go_enter Tryd.func36, Tryd.ntmps36
  go_wp2_with fail
  go_ret
  exact ⟨rfl, rfl⟩

set_option maxHeartbeats 2000000 in
theorem productOf_turned (bx : Nat) (ao bo : Option Addr) (n m ca cb N : Nat) (h1 : 1 ≤ n) (h2 : 1 ≤ m) (hN : n + m = N + 1) (hle : n + m ≤ 4097) (A B D : Nat → Int) (hDe : ∀ j, j < n → D j = A (n - 1 - j)) (hD0 : ∀ t, 0 ≤ D t) (hB0 : ∀ t, 0 ≤ B t) (hfit : ∀ t, cv n m D B t ≤ 18446744073709551615) (w : World) (hbx : w.cell? ⟨bx, 0, none⟩ = some (.slice ao n ca)) (la : Lies w ao n A) (lb : Lies w bo m B) :
    Calls Tryd.prog 37 #[.int .i64 n, .func (.func 36) #[] #[.pointer (some ⟨bx, 0, none⟩)], .slice bo m cb] w fun e w' =>
      e = .returned (.slice (some ⟨w.heap.size, 0, none⟩) N N) ∧ w.heap.size < w'.heap.size ∧ Fam w' w.heap.size 0 N (cv n m D B) ∧ Below w.heap.size w w' := by
  obtain ⟨bb, bof, rfl, hb⟩ := lb h2
  have hbb : bb < w.heap.size := hb.lt (by omega)
  have hxl : bx < w.heap.size := World.block_lt_of_cell? w _ hbx
  have hmk := run_make_row' (P := Tryd.prog) 22 40 (.int .u64 0) 8 Tryd.underlying22 infoU rfl .i64 .i64 N (by omega) (by omega)
  obtain ⟨w1, hw1⟩ : ∃ w1, w1 = w.alloc (.cells (madeCells #[.int .u64 0] N) 40) := ⟨_, rfl⟩
  have E1 : Hid _ := hw1
  have hB1 : Below w.heap.size w w1 := by rw [hw1]; exact (Below.refl _ _).alloc (Nat.le_refl _) _
  have HB : Hid (Below w.heap.size w w1) := hB1
  have hS : Hid (w.heap.size < w1.heap.size) := by show _ < _; rw [hw1, size_alloc]; omega
  have R0 : Hid (RowAt w1 w1 w.heap.size N (cp m D B 0 0)) := ⟨by rw [hw1]; exact (fam_made w N 40).congr (fun t _ => (cp_zero m D B t).symm), by rw [hw1]; exact wrt_made w N 40, Wrote.refl _ _⟩
  have hb1 : Fam w1 bb bof m B := hb.below hB1 hbb
  have hrow : Hid (∀ j, cp m D B j m = cp m D B (j + 1) 0) := fun j => by funext t; exact cp_row m D B j t
  have hfin : Hid (cp m D B n 0 = cv n m D B) := by funext t; exact cp_fin n m D B t
  have hst : Hid (∀ j i x, j + i < N → x = cp m D B j i (j + i) + D j * B i → ∀ wr, RowAt w1 wr w.heap.size N (cp m D B j i) → RowAt w1 (wr.setCell ⟨w.heap.size, j + i, none⟩ (.int .u64 x)).drew w.heap.size N (cp m D B j (i + 1))) :=
    fun j i x hlt hx wr h => h.step hlt (by rw [hx]; exact cp_at m D B j i) (fun t _ hne => cp_off m D B j i t hne)
  have hc0 : ∀ j i t, 0 ≤ cp m D B j i t := cp_nonneg hD0 hB0
  have hc1 : Hid (∀ j i, j < n → i < m → cp m D B j i (j + i) + D j * B i ≤ 18446744073709551615) := fun j i hj hi => by
    rw [cp_at]
    exact Int.le_trans (cp_le hD0 hB0 j (i + 1) (j + i) hj (by omega)) (hfit _)
  have HX : Hid (∀ wr, Wrote (fun b _ => b = w.heap.size) w1 wr → ∀ j : Nat, j < n → Calls Tryd.prog 36 #[.int .i64 j, .pointer (some ⟨bx, 0, none⟩)] wr fun e w' => e = .returned (.int .u64 (D j)) ∧ w' = wr) := fun wr hw j hj => by
    have hB : Below w.heap.size w wr := hB1.trans (hw.below (fun b o e => by omega))
    rw [hDe j hj]
    exact turned_any j n ca bx hj (by omega) ao A wr ((hB.cell (p := ⟨bx, 0, none⟩) hxl).trans hbx) (la.below hB (Nat.le_refl _))
  clear hfit hDe la lb hbx hb hw1 hB1 hxl
  generalize cp m D B = C at *
  generalize cv n m D B = Z at *
  have hNI : (n : Int) + (m : Int) - 1 = (N : Int) := by omega
  go_enter Tryd.func37, Tryd.ntmps37
  go_wp2_with fail
  rw [← E1.out]
  clear E1 hmk hNI
  go_loopw [19] (fun vj wr => ∃ j : Nat, j ≤ n ∧ vj = .int .i64 j ∧ RowAt w1 wr w.heap.size N (C j 0)) (fun vj _ => n - (intOf vj).toNat)
  case atStart => exact ⟨0, Nat.zero_le _, rfl, R0.out⟩
  case round =>
    obtain ⟨j, hj, rfl, hR⟩ := hrel
    by_cases hlt : j < n
    · have HR : Hid (∀ q, RowAt w1 (wr.drewN q) w.heap.size N (C j 0)) := fun q => ⟨hR.fam, hR.wrt, hR.wrote.drewN q⟩
      have cl : Hid _ := fun q => HX.out (wr.drewN q) (hR.wrote.drewN q) j hlt
      have hjn : (j : Int) < (n : Int) := by omega
      clear hR
      go_wp2_with fail
      go_quiet ((go_at_call 36; exact Calls.quiet_of_same (cl.out _)))
      go_wp2_with fail
      rw [Nat.add_sub_cancel_left j m]
      rename World => wo
      go_loopw [34] (fun vi wr => ∃ i : Nat, i ≤ m ∧ vi = .int .i64 i ∧ RowAt w1 wr w.heap.size N (C j i)) (fun vi _ => m - (intOf vi).toNat)
      case atStart => exact ⟨0, Nat.zero_le _, rfl, HR.out nq⟩
      case round =>
        obtain ⟨i, hi, rfl, hR2⟩ := hrel
        by_cases hlt2 : i < m
        · have hji : j + i < N := by omega
          have hcO : wr.cell? ⟨w.heap.size, j + i, none⟩ = some (.int .u64 (C j i (j + i))) := hR2.fam.zero (j + i) hji
          have hfO : wr.frozen? ⟨w.heap.size, j + i, none⟩ = false := hR2.wrt.zero (j + i) hji
          have hcB : wr.cell? ⟨bb, bof + i, none⟩ = some (.int .u64 (B i)) := hR2.wrote.fam hb1 (fun t _ e => by omega) i hlt2
          obtain ⟨V, hV⟩ : ∃ V, D j * B i = V := ⟨_, rfl⟩
          have hV0 : 0 ≤ V := by rw [← hV]; exact Int.mul_nonneg (hD0 j) (hB0 i)
          have hC0 := hc0 j i (j + i)
          have hCV : C j i (j + i) + V ≤ 18446744073709551615 := by rw [← hV]; exact hc1.out j i hlt hlt2
          have HS : Hid _ := hst.out j i (C j i (j + i) + V) hji (by rw [hV]) wr hR2
          have hin : (i : Int) < (m : Int) := by omega
          have hi0 : (0 : Int) ≤ (i : Int) := by omega
          generalize C j i (j + i) = c at *
          clear hR2 HR hc1 hst hrow HX cl hD0 hB0 hc0 R0
          go_wp2_with fail
          go_region
          all_goals
            go_wp2_with fail
            go_roundw
            case rel => exact ⟨i + 1, by omega, by go_num, HS.out⟩
            case measure => simp [intOf]; omega
        · obtain rfl : i = m := by omega
          have HN : Hid (RowAt w1 wr w.heap.size N (C (j + 1) 0)) := by show RowAt _ _ _ _ _; rw [← hrow.out j]; exact hR2
          clear hR2 HR
          go_wp2_with fail
          go_roundw
          case rel => exact ⟨j + 1, by omega, by go_num, HN.out⟩
          case measure => simp [intOf]; omega
    · obtain rfl : j = n := by omega
      have F2 : Hid (Fam wr w.heap.size 0 N Z) := by show Fam _ _ _ _ _; rw [← hfin.out]; exact hR.fam
      have B2 : Hid (Below w.heap.size w wr) := HB.out.trans (hR.wrote.below (fun b o e => by omega))
      have hsz : Hid (w.heap.size < wr.heap.size) := by show w.heap.size < wr.heap.size; rw [hR.wrote.size]; exact hS.out
      clear hR
      go_wp2_with fail
      go_ret
      exact ⟨rfl, hsz.out, F2.out, B2.out⟩

end Go.Proofs.YtdffofpoilfhiaaDoor

namespace Go.Proofs.YtdffofpoilfhiaaDoor
open Go.RowKit Res

/-- What is told: N numbers, F's, and an error's number. -/
def Told (w : World) (N : Nat) (F : Nat → Int) (c : Int) (e : Ending) (w' : World) : Prop :=
  ∃ ao cap, e = .returned (.tuple #[.slice ao N cap, .int .i64 c]) ∧ Lies w' ao N F ∧ Below w.heap.size w w'
theorem Told.nil {w w' : World} {F : Nat → Int} {c : Int} {N : Nat} (hN : N = 0) (hb : Below w.heap.size w w') : Told w N F c (.returned (.tuple #[.slice none 0 0, .int .i64 c])) w' := by
  subst hN
  exact ⟨_, _, rfl, fun h => by omega, hb⟩
theorem Told.row {w w' : World} {F : Nat → Int} {c : Int} {N M g cap : Nat} (hN : N = M) (hf : Fam w' g 0 M F) (hb : Below w.heap.size w w') : Told w N F c (.returned (.tuple #[.slice (some ⟨g, 0, none⟩) M cap, .int .i64 c])) w' := by
  subst hN
  exact ⟨_, _, rfl, fun _ => ⟨g, 0, rfl, hf⟩, hb⟩

/-- A box that holds a slice. -/
structure BoxS (w v : World) (x : Value) (ty : TypeId) : Prop where
  eq : v = w.alloc (.cells #[x] ty)
  cell : v.cell? ⟨w.heap.size, 0, none⟩ = some x
  bel : Below w.heap.size w v
  size : w.heap.size < v.heap.size
theorem boxS (w : World) (x : Value) (ty : TypeId) : ∃ v, BoxS w v x ty :=
  ⟨_, rfl, by simp, (Below.refl _ _).alloc (Nat.le_refl _) _, by rw [size_alloc]; omega⟩

end Go.Proofs.YtdffofpoilfhiaaDoor

namespace Go.Proofs.YtdffofpoilfhiaaDoor
open Go.RowKit Res

theorem cells_at {w : World} {b o n : Nat} {L : Nat → Int} (h : Fam w b o n L) : ∀ j u, (cellsOf L n)[j]? = some u → w.cell? ((⟨b, o, none⟩ : Addr).add j) = some u := by
  intro j u hu
  have hj : j < n := by
    rcases Nat.lt_or_ge j n with h0 | h0
    · exact h0
    · rw [List.getElem?_eq_none (by simp [cellsOf]; omega)] at hu; cases hu
  rw [show (⟨b, o, none⟩ : Addr).add j = ⟨b, o + j, none⟩ by unfold Addr.add; split <;> simp_all, h j hj, ← hu]
  simp [cellsOf, hj]
theorem cells_one (L : Nat → Int) (n : Nat) : ∀ u ∈ cellsOf L n, u.oneCell' = true := by
  intro u hu
  simp [cellsOf] at hu
  obtain ⟨_, _, rfl⟩ := hu
  rfl
theorem empty_own (w : World) : (w.alloc (.cells #[] 40)).ownsRow w.heap.size 40 1 (.slice (some ⟨w.heap.size, 0, none⟩) 0 0) 0 [] := World.ownsRow_lit w #[] 0 (Nat.le_refl _) (by unfold maxLen; omega) rfl
theorem empty_grown {w v1 : World} (hg : (w.alloc (.cells #[] 40)).grownBy v1 (Value.ownBlock (.slice (some ⟨w.heap.size, 0, none⟩) 0 0))) : Below w.heap.size w v1 :=
  ((Below.refl w.heap.size w).alloc (Nat.le_refl _) (.cells #[] 40)).grown hg (by show _ ≤ (w.heap.push _).size; simp) (fun k hk => by simp [Value.ownBlock] at hk; omega)

set_option maxHeartbeats 400000 in
theorem clone_row (b o n c : Nat) (h1 : 1 ≤ n) (hle : n ≤ 1152921504606) (L : Nat → Int) (w : World) (hf : Fam w b o n L) :
    Calls Tryd.prog 38 #[.slice (some ⟨b, o, none⟩) n c] w fun e w' =>
      ∃ g cap, e = .returned (.slice (some ⟨g, 0, none⟩) n cap) ∧ Fam w' g 0 n L ∧ Below w.heap.size w w' := by
  obtain ⟨i0, hi, hz0, hz1, hz2⟩ := info_parts infoU
  have hown0 := empty_own w
  have hnews := cells_at (hf.alloc (.cells #[] 40))
  have hnil : ∀ w, (binOp .eql 22 (.slice (some ⟨b, o, none⟩) n c) (.slice none 0 0)).run Tryd.prog w = .ok (.bool false) w := fun w => run_eql_slice_nil w 22 40 _ _ _ Tryd.underlying22
  clear hf
  go_enter Tryd.func38, Tryd.ntmps38
  go_wp2_with (at_builtin; refine wpList_append_own _ rfl _ _ 22 rfl w.heap.size 40 i0 (.int .u64 0) 1 8 Tryd.underlying22 hi hz0 hz1 hz2 rfl (by decide) _ _ _ rfl hown0 ⟨b, o, none⟩ n c (cellsOf L n) rfl (by simp [cellsOf]) hnews (cells_one L n) (by unfold maxLen; omega) (by omega) (by simp) ?_)
  intro gv w1 hown' hgrow _
  have B1 : Hid _ := empty_grown hgrow
  obtain ⟨g, gc, rfl, _, _, fg, _⟩ := own_fam (D := L) (by unfold Own; simpa using hown') h1
  have Fg : Hid (Fam w1 g 0 n L) := fg
  clear hown' hgrow hnews hown0 fg
  go_wp2_with fail
  go_ret
  exact ⟨g, gc, rfl, Fg.out, B1.out⟩

set_option maxHeartbeats 1000000 in
theorem correlate_any (ao bo : Option Addr) (n m ca cb : Nat) (hn : n ≤ 1152921504606846976) (hm : m ≤ 1152921504606846976) (A B : Nat → Int) (hA0 : ∀ t, 0 ≤ A t) (hB0 : ∀ t, 0 ≤ B t) (hA : ∀ t, A t ≤ 18446744073709551615) (hB : ∀ t, B t ≤ 18446744073709551615) (w : World) (la : Lies w ao n A) (lb : Lies w bo m B) :
    Calls Tryd.prog 21 #[.slice ao n ca, .slice bo m cb] w fun e w' => Told w (kl n m A B) (cr n A B) (kc n m A B) e w' := by
  obtain ⟨w1, x1⟩ := boxS w (.slice ao n ca) 22
  have E1 : Hid _ := x1.eq
  have B1 : Hid _ := x1.bel
  have hs1 := x1.size
  have hc1 := x1.cell
  by_cases hno : n = 0 ∨ m < n
  · rw [kc_none hno]
    have hln := kl_none (A := A) (B := B) hno
    have HL : Hid _ := hln
    clear hln la lb x1
    by_cases hn0 : n = 0
    · subst hn0
      clear hno
      go_enter Tryd.func21, Tryd.ntmps21
      go_wp2_with fail
      go_ret2
      rw [← E1.out]
      exact Told.nil HL.out B1.out
    · have hd : ((n : Int) == 0) = false := beq_eq_false_iff_ne.2 (by omega)
      have hd2 : (m : Int) < (n : Int) := by omega
      clear hno
      go_enter Tryd.func21, Tryd.ntmps21
      go_wp2_with fail
      go_ret2
      rw [← E1.out]
      exact Told.nil HL.out B1.out
  have la1 : Lies w1 ao n A := la.below x1.bel (Nat.le_refl _)
  have lb1 : Lies w1 bo m B := lb.below x1.bel (Nat.le_refl _)
  have h1 : 1 ≤ n := by omega
  have h2 : 1 ≤ m := by omega
  have c1 : Hid _ := errorOf_any ao bo n m ca cb h1 h2 hn hm A B hA hB w1 la1 lb1
  rw [kc_some hno]
  have hd : ((n : Int) == 0) = false := beq_eq_false_iff_ne.2 (by omega)
  have hd2 : (n : Int) ≤ (m : Int) := by omega
  by_cases hok : er n m (gr n A) (gr m B) = 0
  · have hfit : ∀ t, cv n m (fun j => A (n - 1 - j)) B t ≤ 18446744073709551615 := cv_fits (fun t => hA0 _) hB0 (by rw [gr_rev n A hA0]; exact hok)
    obtain ⟨N, hN⟩ : ∃ N, n + m = N + 1 := ⟨n + m - 1, by omega⟩
    have hle := (er_zero hok).1
    have c2 : Hid _ := productOf_turned w.heap.size ao bo n m ca cb N h1 h2 hN hle A B (fun j => A (n - 1 - j)) (fun _ _ => rfl) (fun t => hA0 _) hB0 hfit w1 hc1 la1 lb1
    obtain ⟨p, hp⟩ : ∃ p, p + 1 = n := ⟨n - 1, by omega⟩
    obtain ⟨k, hk⟩ : ∃ k, k = m - p := ⟨_, rfl⟩
    have HL : Hid (kl n m A B = k) := by show _ = _; rw [kl_ok hno hok]; omega
    have c3 : Hid (∀ (v : World) (g c : Nat), Fam v g 0 N (cv n m (fun j => A (n - 1 - j)) B) → Calls Tryd.prog 38 #[.slice (some ⟨g, p, none⟩) k c] v fun e w' => ∃ g cap, e = .returned (.slice (some ⟨g, 0, none⟩) k cap) ∧ Fam w' g 0 k (cr n A B) ∧ Below v.heap.size v w') := fun v g c hf => by
      have hf2 := hf.part p k (by omega)
      rw [Nat.zero_add] at hf2
      exact clone_row g p k c (by omega) (by omega) (cr n A B) v (hf2.congr fun t ht => by rw [show p + t = n - 1 + t by omega]; exact turn_cv n m A B h1 t (by omega))
    rw [hok] at c1 ⊢
    have hpI : (n : Int) - 1 = (p : Int) := by omega
    have hkm : p + k = m := by omega
    have hk1 : 1 ≤ k := by omega
    have hmN : m ≤ N := by omega
    have hpm : p < m := by omega
    have hkr : m - p = k := by omega
    clear la lb x1 la1 lb1 hok hno hA hB hA0 hB0 hfit hk hp hkm
    go_enter Tryd.func21, Tryd.ntmps21
    go_wp2_with fail
    rw [← E1.out]
    refine Calls.mono (Hid.out c1) ?_; rintro e w' ⟨rfl, hw'⟩; subst w'
    go_wp2_with fail
    refine Calls.mono (Hid.out c2) ?_; rintro e w2 ⟨rfl, h3, h4, h5⟩
    have c3' : Hid _ := fun c => c3.out w2 w1.heap.size c h4
    have B2 : Hid (Below w.heap.size w w2) := B1.out.trans (h5.mono (by omega))
    have hc2 : w2.cell? ⟨w.heap.size, 0, none⟩ = some (.slice ao n ca) := (h5.cell (p := ⟨w.heap.size, 0, none⟩) hs1).trans hc1
    have hs2 : w.heap.size ≤ w2.heap.size := by omega
    clear h4 h5 c3
    go_wp2_with fail
    refine Calls.mono (Hid.out (c3'.out _)) ?_; rintro e w3 ⟨g, cap, rfl, h6, h7⟩
    have F3 : Hid _ := h6
    have B3 : Hid (Below w.heap.size w w3) := B2.out.trans (h7.mono hs2)
    clear h6 h7
    go_wp2_with fail
    go_ret2
    exact Told.row HL.out F3.out B3.out
  · have HL : Hid _ := kl_no hno hok
    have hok' : (er n m (gr n A) (gr m B) == 0) = false := beq_eq_false_iff_ne.2 hok
    clear la lb x1 la1 lb1 hno hA hB hA0 hB0
    generalize er n m (gr n A) (gr m B) = E at *
    go_enter Tryd.func21, Tryd.ntmps21
    go_wp2_with fail
    rw [← E1.out]
    refine Calls.mono (Hid.out c1) ?_; rintro e w' ⟨rfl, hw'⟩; subst w'
    go_wp2_with fail
    go_ret2
    exact Told.nil HL.out B1.out

end Go.Proofs.YtdffofpoilfhiaaDoor

namespace Go.Proofs.YtdffofpoilfhiaaDoor
open Go.RowKit Res

theorem pd_nonneg {n : Nat} {A : Nat → Int} (h : ∀ t, 0 ≤ A t) (t : Nat) : 0 ≤ pd n A t := by
  unfold pd; split
  · exact h t
  · exact Int.le_refl 0
/-- A row laid over zeros. -/
theorem copy_made (w : World) (b o n c S : Nat) (hS : n ≤ S) (A : Nat → Int) (hf : Fam w b o n A) :
    ∃ w2, (Builtin.copy_ #[22, 22] 3 #[.slice (some ⟨w.heap.size, 0, none⟩) S S, .slice (some ⟨b, o, none⟩) n c]).run Tryd.prog (w.alloc (.cells (madeCells #[.int .u64 0] S) 40)) = .ok (.int .i64 n) w2 ∧ Fam w2 w.heap.size 0 S (pd n A) ∧ Below w.heap.size w w2 ∧ w.heap.size < w2.heap.size := by
  obtain ⟨cu, hb, hnl, hcu⟩ := World.rowIs_made w (.int .u64 0) S 40
  have hlen : (cellsOf A n).length = n := by simp [cellsOf]
  have hr := run_copy_row (P := Tryd.prog) (w.alloc (.cells (madeCells #[.int .u64 0] S) 40)) 22 22 3 40 w.heap.size 0 S S ⟨b, o, none⟩ n c cu 40 (cellsOf A n) Tryd.underlying22 (by kernel_rfl) hb (by rw [hlen]; exact (Nat.min_eq_left hS).symm) (cells_at (hf.alloc _)) (by rw [hlen, hnl]; omega) (cells_one A n)
  rw [hlen] at hr
  refine ⟨_, hr, ?_, ?_, ?_⟩
  · intro t ht
    rw [cell_setRow_same _ _ _ cu _ 40 (0, 0) hb, Nat.zero_add t]
    unfold pd
    have e : ((cu.toList.take 0 ++ cellsOf A n ++ cu.toList.drop (0 + n)).toArray)[t]? = (cellsOf A n ++ cu.toList.drop n)[t]? := by simp
    rw [e]
    by_cases h2 : t < n
    · rw [List.getElem?_append_left (by omega), if_pos h2]
      simp [cellsOf, h2]
    · rw [List.getElem?_append_right (by omega), if_neg h2, hlen, List.getElem?_drop, show n + (t - n) = t by omega, Array.getElem?_toList]
      exact hcu t ht
  · exact below_setRow ((Below.refl _ _).alloc (Nat.le_refl _) _) (Nat.le_refl _) _
  · simp [World.setRow]

/-- The box of the three rows: k of them are there. -/
structure Three (wc wr : World) (R k N S : Nat) (F : Nat → Nat → Int) : Prop where
  have_ : ∀ i, i < k → ∃ g, wr.cell? ⟨R, i, none⟩ = some (.slice (some ⟨g, 0, none⟩) N S) ∧ Fam wr g 0 N (F i) ∧ R < g ∧ g < wr.heap.size
  bare : ∀ i, k ≤ i → i < 3 → wr.cell? ⟨R, i, none⟩ = some (.slice none 0 0)
  wrt : Wrt wr R 0 3
  bel : Below R wc wr
  lt : R < wr.heap.size
theorem Three.step {wc wr w' : World} {R k N S g : Nat} {F : Nat → Nat → Int} {G : Nat → Int} (h : Three wc wr R k N S F) (hk : k < 3) (hb : Below wr.heap.size wr w') (hg : wr.heap.size ≤ g) (hgl : g < w'.heap.size) (hf : Fam w' g 0 S G) (hN : N ≤ S) (hF : ∀ t, t < N → G t = F k t) :
    Three wc (w'.setCell ⟨R, k, none⟩ (.slice (some ⟨g, 0, none⟩) N S)) R (k + 1) N S F := by
  have hlt := h.lt
  have hsz : (w'.setCell ⟨R, k, none⟩ (.slice (some ⟨g, 0, none⟩) N S)).heap.size = w'.heap.size := (Wrote.setCell (S := fun b _ => b = R) (Wrote.refl _ w') rfl _).size
  refine ⟨fun i hi => ?_, fun i h1 h2 => ?_, ?_, ?_, ?_⟩
  · by_cases e : i = k
    · subst e
      refine ⟨g, ?_, ?_, by omega, by omega⟩
      · have hc : w'.cell? ⟨R, i, none⟩ = some (.slice none 0 0) := (hb.cell (p := ⟨R, i, none⟩) hlt).trans (h.bare i (Nat.le_refl _) hk)
        exact World.cell?_setCell_same _ _ _ hc
      · exact ((hf.head N hN).congr hF).setCell_ne (by omega) _
    · obtain ⟨g', hc, hf', h3, h4⟩ := h.have_ i (by omega)
      refine ⟨g', ?_, (hf'.below hb h4).setCell_ne (by omega) _, h3, by have := hb.size; omega⟩
      rw [cell_setCell_ne _ _ _ _ _ _ (Or.inr e)]
      exact (hb.cell (p := ⟨R, i, none⟩) hlt).trans hc
  · rw [cell_setCell_ne _ _ _ _ _ _ (Or.inr (by omega))]
    exact (hb.cell (p := ⟨R, i, none⟩) hlt).trans (h.bare i (by omega) h2)
  · exact (h.wrt.below hb hlt).setCell _ _
  · exact h.bel.trans ((hb.mono (Nat.le_of_lt hlt)).trans ((Wrote.setCell (S := fun b _ => b = R) (Wrote.refl _ w') rfl _).below (fun b o e => by omega)))
  · have := hb.size; omega
theorem three_new (wb : World) (N S : Nat) (F : Nat → Nat → Int) (ty : TypeId) : ∃ wc, wc = wb.alloc (.cells #[.slice none 0 0, .slice none 0 0, .slice none 0 0] ty) ∧ Three wc wc wb.heap.size 0 N S F ∧ Below wb.heap.size wb wc := by
  refine ⟨_, rfl, ⟨fun i hi => by omega, fun i _ h => ?_, fun i h => ?_, Below.refl _ _, by rw [size_alloc]; omega⟩, (Below.refl _ _).alloc (Nat.le_refl _) _⟩
  · have : i = 0 ∨ i = 1 ∨ i = 2 := by omega
    rcases this with rfl | rfl | rfl <;> simp
  · simp
theorem pr_ne (k : Nat) (hk : k < 3) : pr (k : Int) ≠ 0 := by
  have : k = 0 ∨ k = 1 ∨ k = 2 := by omega
  rcases this with rfl | rfl | rfl <;> decide

end Go.Proofs.YtdffofpoilfhiaaDoor

namespace Go.Proofs.YtdffofpoilfhiaaDoor
open Go.RowKit Res

theorem Own.told {w w' : World} {N : Nat} {F : Nat → Int} {v : Value} {M : Nat} (hM : M = N) (h : Own w' w.heap.size v N F) (hb : Below w.heap.size w w') : ∃ ao cap, v = .slice ao N cap ∧ Told w M F 0 (.returned (.tuple #[v, .int .i64 0])) w' := by
  subst hM
  by_cases h1 : 1 ≤ M
  · obtain ⟨g, cap, rfl, _, _, hf, _⟩ := own_fam h h1
    exact ⟨_, _, rfl, Told.row rfl hf hb⟩
  · obtain ⟨ao, c, rfl⟩ := own_slice h
    exact ⟨_, _, rfl, _, _, rfl, fun h => absurd h h1, hb⟩
theorem Own.drewN {w : World} {B j : Nat} {v : Value} {D : Nat → Int} (h : Own w B v j D) (q : Nat) : Own (w.drewN q) B v j D := h

theorem cr_part {n : Nat} {p t : Nat → Int} (hp : ∀ i, 0 ≤ p i) (ht : ∀ i, 0 ≤ t i) (i j : Nat) (hj : j ≤ n) : sm j (fun j => p j * t (i + j)) ≤ cr n p t i := sm_mono hj (fun _ _ => Int.mul_nonneg (hp _) (ht _))

set_option maxHeartbeats 1000000 in
theorem slide_any (pb po tb tof n m ca cb : Nat) (h1 : 1 ≤ n) (h2 : n ≤ m) (hm : m ≤ 1152921504606) (P T : Nat → Int) (hP0 : ∀ t, 0 ≤ P t) (hT0 : ∀ t, 0 ≤ T t) (hfit : ∀ i, i + n ≤ m → cr n P T i ≤ 18446744073709551615) (w : World) (fp : Fam w pb po n P) (ft : Fam w tb tof m T) :
    Calls Tryd.prog 22 #[.slice (some ⟨pb, po, none⟩) n ca, .slice (some ⟨tb, tof, none⟩) m cb] w fun e w' => ∃ v, e = .returned v ∧ Own w' w.heap.size v (m + 1 - n) (cr n P T) ∧ Below w.heap.size w w' := by
  obtain ⟨i0, hi, hz0, hz1, hz2⟩ := info_parts infoU
  have hpl : pb < w.heap.size := fp.lt (by omega)
  have htl : tb < w.heap.size := ft.lt (by omega)
  have Fp : Hid (Fam w pb po n P) := fp
  have Ft : Hid (Fam w tb tof m T) := ft
  have Hfit : Hid (∀ i j, i + n ≤ m → j < n → sm j (fun j => P j * T (i + j)) + P j * T (i + j) ≤ 18446744073709551615) := fun i j h hj => Int.le_trans (cr_part hP0 hT0 i (j + 1) hj) (hfit i h)
  clear fp ft hfit
  go_enter Tryd.func22, Tryd.ntmps22
  go_wp2_with fail
  go_loopw [5, 6] (fun vo vi wr => ∃ i : Nat, i ≤ m + 1 - n ∧ vi = .int .i64 i ∧ Own wr w.heap.size vo i (cr n P T) ∧ Below w.heap.size w wr) (fun _ vi _ => m + 1 - n - (intOf vi).toNat)
  case atStart => exact ⟨0, Nat.zero_le _, rfl, own_nil _ _ _, Below.refl _ _⟩
  case round =>
    obtain ⟨i, hile, rfl, hown, hbel⟩ := hrel
    have Hown : Hid (Own wr w.heap.size _ i (cr n P T)) := hown
    have Hbel : Hid (Below w.heap.size w wr) := hbel
    have Fp2 : Hid (Fam wr pb po n P) := Fp.out.below hbel hpl
    have Ft2 : Hid (Fam wr tb tof m T) := Ft.out.below hbel htl
    have hsz : w.heap.size ≤ wr.heap.size := hbel.size
    clear hown hbel
    by_cases hlt : i + n ≤ m
    · have hltI : (i : Int) + (n : Int) ≤ (m : Int) := by omega
      obtain ⟨ps, hps⟩ : ∃ ps : Nat → Int, ∀ j, ps j = sm j (fun j => P j * T (i + j)) := ⟨_, fun _ => rfl⟩
      have hps1 : Hid (∀ j, ps j + P j * T (i + j) = ps (j + 1)) := fun j => by rw [hps, hps]; rfl
      have hps0 : Hid (ps 0 = 0) := by show ps 0 = 0; rw [hps]; rfl
      have hpsn : Hid (ps n = cr n P T i) := hps n
      have hpsb : Hid (∀ j, 0 ≤ ps j) := fun j => by rw [hps]; exact sm_nonneg fun _ _ => Int.mul_nonneg (hP0 _) (hT0 _)
      have hpsM : Hid (∀ j, j < n → ps j + P j * T (i + j) ≤ 18446744073709551615) := fun j hj => by rw [hps]; exact Hfit.out i j hlt hj
      clear hps
      go_wp2_with fail
      rename World => wo
      go_loopw [7, 8] (fun vx vj wr => (∃ q, wr = wo.drewN q) ∧ ∃ j : Nat, j ≤ n ∧ vj = .int .i64 j ∧ vx = .int .u64 (ps j)) (fun _ vj _ => n - (intOf vj).toNat)
      case atStart => exact ⟨⟨0, rfl⟩, 0, Nat.zero_le _, rfl, by rw [hps0.out]⟩
      case round =>
        obtain ⟨⟨q, hwx⟩, j, hjle, rfl, rfl⟩ := hrel
        have HW : Hid (wr = wo.drewN q) := hwx
        by_cases hlt2 : j < n
        · have hcP : wr.cell? ⟨pb, po + j, none⟩ = some (.int .u64 (P j)) := by rw [hwx]; exact Fp2.out j hlt2
          have hcT : wr.cell? ⟨tb, tof + (i + j), none⟩ = some (.int .u64 (T (i + j))) := by rw [hwx]; exact Ft2.out (i + j) (by omega)
          obtain ⟨V, hV⟩ : ∃ V, P j * T (i + j) = V := ⟨_, rfl⟩
          have hV0 : 0 ≤ V := by rw [← hV]; exact Int.mul_nonneg (hP0 _) (hT0 _)
          have hVM : ps j + V ≤ 18446744073709551615 := by rw [← hV]; exact hpsM.out j hlt2
          have hp0 := hpsb.out j
          have hst : Hid (ps j + V = ps (j + 1)) := by show _ = _; rw [← hV]; exact hps1.out j
          have hjI : (j : Int) < (n : Int) := by omega
          have hijI : (i : Int) + (j : Int) < (m : Int) := by omega
          clear hwx Hown Hbel hpsM hps1
          go_wp2_with fail
          go_quiet (fail)
          go_wp2_with fail
          go_roundw
          case rel =>
            refine ⟨⟨q + nq, ?_⟩, j + 1, by omega, by go_num, by rw [hst.out]⟩
            rw [HW.out]
            exact World.drewN_drewN _ _ _
          case measure => simp [intOf]; omega
        · obtain rfl : j = n := by omega
          have Hown2 : Hid (Own wr w.heap.size u5 i (cr j P T)) := by show Own _ _ _ _ _; rw [hwx]; exact Own.drewN Hown.out q
          have Hbel2 : Hid (Below w.heap.size w wr) := by show Below _ _ _; rw [hwx]; exact below_drewN Hbel.out q
          have hown := Hown2.out
          have hsz2 := Hbel2.out.size
          unfold Own at hown
          clear hwx
          go_wp2_with (at_builtin; refine wpList_append_own _ rfl _ _ 22 rfl w.heap.size 40 i0 (.int .u64 0) 1 8 Tryd.underlying22 hi hz0 hz1 hz2 rfl (by decide) _ _ _ rfl (hown.alloc _) ⟨wr.heap.size, 0, none⟩ 1 1 [.int .u64 (ps j)] rfl rfl ?c1 ?c2 ?c3 ?c4 ?c5 ?_)
          case c1 =>
            intro j' u hj'
            match j', hj' with
            | 0, hj' => simp at hj'; subst hj'; simp [Addr.add]
          case c2 => intro u hu; simp at hu; subst hu; rfl
          case c3 => unfold maxLen; omega
          case c4 => omega
          case c5 => simp; omega
          · intro v' w1 hown' hgrow _
            have R := own_step hpsn.out hsz2 Hbel2.out Hown2.out hown' hgrow
            have HR : Hid _ := R
            clear R hown' hgrow hown Hown Hbel Hown2 Hbel2
            go_wp2_with fail
            go_roundw
            case rel => exact ⟨i + 1, by omega, by go_num, HR.out.1, HR.out.2⟩
            case measure => simp [intOf]; omega
    · obtain rfl : i = m + 1 - n := by omega
      have hltI : ¬ (((m + 1 - n : Nat) : Int) + (n : Int) ≤ (m : Int)) := by omega
      go_wp2_with fail
      go_ret
      exact ⟨_, rfl, Hown.out, Hbel.out⟩

end Go.Proofs.YtdffofpoilfhiaaDoor
